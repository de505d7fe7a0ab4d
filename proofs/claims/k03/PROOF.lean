import PyProof.Rows.All
import Wide.All
import OpenK.AllK
import Wide.FinOn
import HandS.ForMost
import HandS.ForExc
import HandS.Wide
import HandS.Defaults
import HandS.IsInst
import HandS.FStr
import HandS.Walk
import HandS.CallLocal
import HandS.Evl
import KE.GoesEnum
import PySem.Challenge.RW_nestlaid_k03_dealt_to_caps
set_option Elab.async false
set_option linter.all false
set_option maxRecDepth 100000
set_option maxHeartbeats 4000000

namespace K03
open PySem PySem.Spec PyProof.Rows L2
def topS (i : Nat) : Stmt := PySem.Challenge.pw_nestlaid_k03_dealt_to_caps.main.body.getD i (.Pass ⟨0, 0, 0, 0⟩)
abbrev s_p_is_whole : Stmt := topS 4
abbrev s_p_is_count : Stmt := topS 5
abbrev s_p_dealt : Stmt := topS 6
abbrev s_p_refuse_no_list : Stmt := topS 7
abbrev s_p_refuse_no_counts : Stmt := topS 8
abbrev s_p_refuse_no_weights : Stmt := topS 9
abbrev s_p_by_level : Stmt := topS 10
abbrev s_p_unbound : Stmt := topS 11
abbrev s_p_cap_binds : Stmt := topS 12
abbrev s_p_running_parts : Stmt := topS 13
abbrev s_p_in_lowest_terms : Stmt := topS 14
abbrev s_cell_at : Stmt := topS 16
abbrev s_mixed : Stmt := topS 17
abbrev s_source : Stmt := topS 18
abbrev s_next : Stmt := topS 19
abbrev s_upto : Stmt := topS 20
abbrev s_some : Stmt := topS 21
abbrev s_weights : Stmt := topS 22
abbrev s_many : Stmt := topS 23
abbrev s_total : Stmt := topS 24
abbrev s_shared : Stmt := topS 25
abbrev s_whole : Stmt := topS 26
abbrev s_kinds : Stmt := topS 27
abbrev s_lesser : Stmt := topS 28
abbrev s_rest_right : Stmt := topS 29
abbrev s_right : Stmt := topS 30
abbrev s_nought : Stmt := topS 31
abbrev s_law : Stmt := topS 32
abbrev n_p_is_whole : List Str := ["thing"]
theorem sc_p_is_whole : FnScope n_p_is_whole ["thing"] (defScope s_p_is_whole) := ⟨rfl, rfl, rfl, by decide +kernel, rfl, by decide +kernel, by decide +kernel⟩
abbrev n_p_is_count : List Str := ["thing"]
theorem sc_p_is_count : FnScope n_p_is_count ["thing"] (defScope s_p_is_count) := ⟨rfl, rfl, rfl, by decide +kernel, rfl, by decide +kernel, by decide +kernel⟩
abbrev n_p_dealt : List Str := ["total", "caps", "weights", "cap", "limits", "weight"]
theorem sc_p_dealt : FnScope n_p_dealt ["total", "caps", "weights"] (defScope s_p_dealt) := ⟨rfl, rfl, rfl, by decide +kernel, rfl, by decide +kernel, by decide +kernel⟩
abbrev n_p_refuse_no_list : List Str := ["thing"]
theorem sc_p_refuse_no_list : FnScope n_p_refuse_no_list ["thing"] (defScope s_p_refuse_no_list) := ⟨rfl, rfl, rfl, by decide +kernel, rfl, by decide +kernel, by decide +kernel⟩
abbrev n_p_refuse_no_counts : List Str := ["things", "thing"]
theorem sc_p_refuse_no_counts : FnScope n_p_refuse_no_counts ["things"] (defScope s_p_refuse_no_counts) := ⟨rfl, rfl, rfl, by decide +kernel, rfl, by decide +kernel, by decide +kernel⟩
abbrev n_p_refuse_no_weights : List Str := ["weights", "many"]
theorem sc_p_refuse_no_weights : FnScope n_p_refuse_no_weights ["weights", "many"] (defScope s_p_refuse_no_weights) := ⟨rfl, rfl, rfl, by decide +kernel, rfl, by decide +kernel, by decide +kernel⟩
abbrev n_p_by_level : List Str := ["total", "limits", "weights", "binds", "free", "room", "whole_weight", "parts", "at", "part", "place"]
theorem sc_p_by_level : FnScope n_p_by_level ["total", "limits", "weights", "binds"] (defScope s_p_by_level) := ⟨rfl, rfl, rfl, by decide +kernel, rfl, by decide +kernel, by decide +kernel⟩
abbrev n_p_unbound : List Str := ["total", "limits", "weights", "binds", "free", "at", "weight", "room", "limit", "whole_weight", "bound"]
theorem sc_p_unbound : FnScope n_p_unbound ["total", "limits", "weights", "binds"] (defScope s_p_unbound) := ⟨rfl, rfl, rfl, by decide +kernel, rfl, by decide +kernel, by decide +kernel⟩
abbrev n_p_cap_binds : List Str := ["cap", "weight", "top", "bottom"]
theorem sc_p_cap_binds : FnScope n_p_cap_binds ["cap", "weight", "top", "bottom"] (defScope s_p_cap_binds) := ⟨rfl, rfl, rfl, by decide +kernel, rfl, by decide +kernel, by decide +kernel⟩
abbrev n_p_running_parts : List Str := ["room", "weights", "whole", "parts", "weight_so_far", "dealt_so_far", "weight", "dealt_now"]
theorem sc_p_running_parts : FnScope n_p_running_parts ["room", "weights"] (defScope s_p_running_parts) := ⟨rfl, rfl, rfl, by decide +kernel, rfl, by decide +kernel, by decide +kernel⟩
abbrev n_p_in_lowest_terms : List Str := ["top", "bottom", "divisor", "rest"]
theorem sc_p_in_lowest_terms : FnScope n_p_in_lowest_terms ["top", "bottom"] (defScope s_p_in_lowest_terms) := ⟨rfl, rfl, rfl, by decide +kernel, rfl, by decide +kernel, by decide +kernel⟩
abbrev n_cell_at : List Str := ["_law_script", "_law_k"]
theorem sc_cell_at : FnScope n_cell_at ["_law_script", "_law_k"] (defScope s_cell_at) := ⟨rfl, rfl, rfl, by decide +kernel, rfl, by decide +kernel, by decide +kernel⟩
abbrev n_mixed : List Str := ["_law_cell", "_law_k", "_law_low"]
theorem sc_mixed : FnScope n_mixed ["_law_cell", "_law_k"] (defScope s_mixed) := ⟨rfl, rfl, rfl, by decide +kernel, rfl, by decide +kernel, by decide +kernel⟩
abbrev n_source : List Str := ["_law_cell"]
theorem sc_source : FnScope n_source ["_law_cell"] (defScope s_source) := ⟨rfl, rfl, rfl, by decide +kernel, rfl, by decide +kernel, by decide +kernel⟩
abbrev n_next : List Str := ["_law_source_here", "_law_many_here", "_law_found"]
theorem sc_next : FnScope n_next ["_law_source_here", "_law_many_here"] (defScope s_next) := ⟨rfl, rfl, rfl, by decide +kernel, rfl, by decide +kernel, by decide +kernel⟩
abbrev n_upto : List Str := ["_law_source_here", "_law_far"]
theorem sc_upto : FnScope n_upto ["_law_source_here", "_law_far"] (defScope s_upto) := ⟨rfl, rfl, rfl, by decide +kernel, rfl, by decide +kernel, by decide +kernel⟩
abbrev n_some : List Str := ["_law_source_here", "_law_far", "_law_near", "_law_many_here", "_law_found", "_law_times", "_law_k", "_law_way", "_law_one"]
theorem sc_some : FnScope n_some ["_law_source_here", "_law_far", "_law_near", "_law_many_here"] (defScope s_some) := ⟨rfl, rfl, rfl, by decide +kernel, rfl, by decide +kernel, by decide +kernel⟩
abbrev n_weights : List Str := ["_law_source_here", "_law_many_here", "_law_far", "_law_found", "_law_k", "_law_one"]
theorem sc_weights : FnScope n_weights ["_law_source_here", "_law_many_here"] (defScope s_weights) := ⟨rfl, rfl, rfl, by decide +kernel, rfl, by decide +kernel, by decide +kernel⟩
abbrev n_many : List Str := ["_law_source_here", "_law_some_here"]
theorem sc_many : FnScope n_many ["_law_source_here"] (defScope s_many) := ⟨rfl, rfl, rfl, by decide +kernel, rfl, by decide +kernel, by decide +kernel⟩
abbrev n_total : List Str := ["_law_source_here", "_law_most", "_law_some_here"]
theorem sc_total : FnScope n_total ["_law_source_here", "_law_most"] (defScope s_total) := ⟨rfl, rfl, rfl, by decide +kernel, rfl, by decide +kernel, by decide +kernel⟩
abbrev n_shared : List Str := ["_law_one", "_law_other"]
theorem sc_shared : FnScope n_shared ["_law_one", "_law_other"] (defScope s_shared) := ⟨rfl, rfl, rfl, by decide +kernel, rfl, by decide +kernel, by decide +kernel⟩
abbrev n_whole : List Str := ["_law_found"]
theorem sc_whole : FnScope n_whole ["_law_found"] (defScope s_whole) := ⟨rfl, rfl, rfl, by decide +kernel, rfl, by decide +kernel, by decide +kernel⟩
abbrev n_kinds : List Str := ["_law_found", "_law_many_here", "_law_got", "_law_level"]
theorem sc_kinds : FnScope n_kinds ["_law_found", "_law_many_here"] (defScope s_kinds) := ⟨rfl, rfl, rfl, by decide +kernel, rfl, by decide +kernel, by decide +kernel⟩
abbrev n_lesser : List Str := ["_law_cap", "_law_part", "_law_bottom"]
theorem sc_lesser : FnScope n_lesser ["_law_cap", "_law_part", "_law_bottom"] (defScope s_lesser) := ⟨rfl, rfl, rfl, by decide +kernel, rfl, by decide +kernel, by decide +kernel⟩
abbrev n_rest_right : List Str := ["_law_told", "_law_caps", "_law_weights_here", "_law_top", "_law_bottom", "_law_behind", "_law_got", "_law_cap", "_law_weight", "_law_due"]
theorem sc_rest_right : FnScope n_rest_right ["_law_told", "_law_caps", "_law_weights_here", "_law_top", "_law_bottom"] (defScope s_rest_right) := ⟨rfl, rfl, rfl, by decide +kernel, rfl, by decide +kernel, by decide +kernel⟩
abbrev n_right : List Str := ["_law_found", "_law_total_here", "_law_caps", "_law_weights_here", "_law_level", "_law_told", "_law_some_here", "_law_cap", "_law_weight", "_law_due", "_law_top", "_law_bottom"]
theorem sc_right : FnScope n_right ["_law_found", "_law_total_here", "_law_caps", "_law_weights_here"] (defScope s_right) := ⟨rfl, rfl, rfl, by decide +kernel, rfl, by decide +kernel, by decide +kernel⟩
abbrev n_nought : List Str := ["_law_caps", "_law_cap"]
theorem sc_nought : FnScope n_nought ["_law_caps"] (defScope s_nought) := ⟨rfl, rfl, rfl, by decide +kernel, rfl, by decide +kernel, by decide +kernel⟩
abbrev n_law : List Str := ["_law_script", "_law_cell", "_law_source_here", "_law_many_here", "_law_weights_here", "_law_caps", "_law_cap", "_law_known", "_law_weight", "_law_total_here", "_law_handed", "_law_found"]
theorem sc_law : FnScope n_law ["_law_script"] (defScope s_law) := ⟨rfl, rfl, rfl, by decide +kernel, rfl, by decide +kernel, by decide +kernel⟩
/-! ### what is known of a def of the top, and of a def that keeps its promise -/
structure Has (K : PySem.W.Frag) (mg : Str → Option Value) (x : Str) (st : Stmt) (ps : List Str) : Prop where
  ex : ∃ f fd, Fun K x x st f fd ∧ mg x = some (.ref f) ∧ Binds K fd ps []
structure Ok (P : Program) (w : World) (K : PySem.W.Frag) (mg : Str → Option Value) (base : Heap) (C : CXT) (x : Str) (st : Stmt) (k : Nat) (ps : List Str) (sp : Sp) : Prop where
  ex : ∃ f fd, Fun K x x st f fd ∧ FnOk P w K mg base C k f fd ps sp ∧ mg x = some (.ref f) ∧ Binds K fd ps []
section
variable {P : Program} {w : World} {K : PySem.W.Frag} {mg : Str → Option Value} {base : Heap} {x : Str} {st : Stmt} {ps N : List Str} {k : Nat} {sp : Sp}
theorem has_mk {f : Addr} {fd : FuncData} (F : Fun K x x st f fd) (g : mg x = some (.ref f))
    (h : ∀ (kV doc pm : Value) (an : Option Addr) (cdv ct : Value) (us : List Value), us.length = ps.length → bindArgs (PySem.W.fnOf x x (defArgs st) (defBody st) (defScope st) .none kV doc pm an cdv ct) ⟨us, []⟩ = pure (ps.zip us)) : Has K mg x st ps :=
  ⟨f, fd, F, g, F.binds h⟩
theorem Has.ok (D : Has K mg x st ps) (S : FnScope N ps (defScope st)) (len : ∀ vs H Q E, sp vs H Q E → vs.length = ps.length)
    (hbody : ∀ (f : Addr) (cdv : Value) (A : Around) (outer : List Env) (s : Shared) (H : Hp) (vs : List V) (Q : VK) (E : XK), Room k (A.deeper (envOfC x (defScope st) s.heap.objs.size f cdv)) → sp vs H Q E →
      ∃ t, PSs (cxOf CX0 P w K mg base N x (defScope st) f cdv A outer s H E).nox (defBody st) t ∧ t { nx := fun _ H' => Q .non H', rt := Q } (start N vs) H) : Ok P w K mg base CX0 x st (k + 1) ps sp := by
  obtain ⟨f, fd, F, g, b⟩ := D
  exact ⟨f, fd, F, F.ok S len (hbody f), g, b⟩
end
section
variable {X : Cx} {x : Str} {st : Stmt} {ps ks : List Str} {k : Nat} {sp : Sp} {e : Expr} {es : List Expr} {kws : List Keyword} {t tk : TA} {p pos : Pos} {g : List Value → List Value → List Value} {gV : List V → List V → List V}
theorem callO (O : Ok X.prog X.w X.K X.mg X.base CX0 x st k ps sp) (hr : Room k X.A) (hg : Gl X x) (ha : PA X (e :: es) t) (hdb : (x == ("__debug__" : Str)) = false := by decide) (he : starEach (e :: es) X.env = (false, eval e X.env) :: starEach es X.env := by rfl) (hpl : (backTo pos (starEach es X.env)).any (·.1) = false := by rfl) :
    PE X (.Call (.Name x p) (e :: es) [] pos) (tCall sp [] E0 t) := by
  obtain ⟨f, fd, F, G, m, b⟩ := O
  exact pe_call G hr hg m F.kp b .nil pass0 ha hdb he hpl
/-- how a call by keywords alone binds -/
def KwB (x : Str) (st : Stmt) (ps ks : List Str) (g : List Value → List Value → List Value) : Prop :=
  ∀ (kV doc pm : Value) (an : Option Addr) (cdv ct : Value) (ws : List Value), ws.length = ks.length → bindArgs (PySem.W.fnOf x x (defArgs st) (defBody st) (defScope st) .none kV doc pm an cdv ct) ⟨[], ks.zip ws⟩ = pure (ps.zip (g [] ws))
theorem kbn_of {K : PySem.W.Frag} {f : Addr} {fd : FuncData} (F : Fun K x x st f fd) (h : KwB x st ps ks g) (rel : ∀ {vs : List V} {us : List Value} {zs : List V} {ws : List Value}, Vals vs us → Vals zs ws → Vals (gV vs zs) (g us ws)) : KBn K fd ps 0 ks g gV := by
  obtain ⟨oc, od, kV, doc, pm, an, cdv, ct, osl, rfl, lk, hcd⟩ := F.ex
  refine ⟨fun s us ws _ h1 h2 => ?_, rel⟩
  obtain rfl : us = [] := List.eq_nil_of_length_eq_zero h1
  exact .of_eq (h kV doc pm an cdv ct ws h2)
/-- f(k = v, ..) -/
theorem callO_kw (O : Ok X.prog X.w X.K X.mg X.base CX0 x st k ps sp) (h : KwB x st ps ks g) (rel : ∀ {vs : List V} {us : List Value} {zs : List V} {ws : List Value}, Vals vs us → Vals zs ws → Vals (gV vs zs) (g us ws)) (hr : Room k X.A) (hg : Gl X x) (hkw : PK X kws tk)
    (hall : (backToKw pos (keywordEach kws X.env)).all (·.1.isSome) = true := by rfl) (hks : (backToKw pos (keywordEach kws X.env)).filterMap (·.1) = ks := by rfl) (hdb : (x == ("__debug__" : Str)) = false := by decide)
    (hpl : ((backTo pos (starEach [] X.env)).any (·.1) || (backToKw pos (keywordEach kws X.env)).any (·.1.isNone)) = false := by rfl) :
    PE X (.Call (.Name x p) [] kws pos) (tCallN 0 ks.length sp gV E0 tNil tk) := by
  obtain ⟨f, fd, F, G, m, b⟩ := O
  refine ⟨fun pins s σ H Q I h0 => ?_⟩
  refine wpAny_Call_Name_kw (ld_glob I hg m ?_ hdb)
  refine PySem.W.callWith_KW0 (h₀ := X.base) I.ok.mod.kin F.kp hall ?_ hpl
  refine thn (hkw.run pos pins s σ H _ I h0) fun ws s2 ⟨zs, H2, I2, rz, l1, l2, q2⟩ => ⟨I2.kIn, ?_⟩
  rw [hks]
  exact run_fnN (us := []) (vs := []) G hr (kbn_of F h rel) pass0 I2 .nil rz rfl l2 q2
end
/-! ### heaps -/
/-- all but p is as it was -/
def Off (p : Addr) (H H' : Hp) : Prop := ∀ b o, H b = some o → b ≠ p → H' b = some o
theorem Off.refl {p : Addr} {H : Hp} : Off p H H := fun _ _ h _ => h
theorem Off.trans {p : Addr} {H H1 H2 : Hp} (a : Off p H H1) (b : Off p H1 H2) : Off p H H2 := fun c o h n => b c o (a c o h n) n
theorem Off.of {p : Addr} {H H' : Hp} (s : Same H H') : Off p H H' := fun b o h _ => s b o h
theorem off_upd {p : Addr} {H : Hp} {o : HO} : Off p H (upd H p o) := fun b o' h n => by rw [upd_ne n]; exact h
theorem same_upd {H : Hp} {p : Addr} {o : HO} (h : H p = none) : Same H (upd H p o) := fun b x e => by
  rw [upd_ne (ne_of_none e h)]
  exact e
theorem off_new {p q : Addr} {H : Hp} {o : HO} (h : H q = none) : Off p H (upd H q o) := .of (same_upd h)
theorem Off.seq {K : PySem.W.Frag} {p : Addr} {H H' : Hp} {a : Addr} {xs : List V} (e : Off p H H') (n : a ≠ p) (h : SqL K H a xs) : SqL K H' a xs := by
  rcases h with (h | ⟨o, h⟩) | h
  · exact .inl (.inl (e _ _ h n))
  · exact .inl (.inr ⟨o, e _ _ h n⟩)
  · exact .inr h
theorem Off.ne {p a : Addr} {H H' : Hp} {o o' : HO} (h : H a = some o) (n : H p = none) : a ≠ p := ne_of_none h n
theorem atI_mem {α : Type} {xs : List α} {i : Int} (h0 : 0 ≤ i) (h1 : i < (xs.length : Int)) : ∃ v, v ∈ xs ∧ atI xs i = some v := by
  have h2 : i.toNat < xs.length := by omega
  refine ⟨xs[i.toNat], List.getElem_mem h2, ?_⟩
  have h3 := atI_nat (xs := xs) (j := i.toNat) (v := xs[i.toNat]) (List.getElem?_eq_getElem h2)
  rw [show ((i.toNat : Nat) : Int) = i by omega] at h3
  exact h3
theorem atI_at {α : Type} {xs : List α} {i : Int} (h0 : 0 ≤ i) (h1 : i < (xs.length : Int)) : ∃ (j : Nat) (v : α), (j : Int) = i ∧ xs[j]? = some v ∧ atI xs i = some v := by
  have h2 : i.toNat < xs.length := by omega
  have h3 := atI_nat (xs := xs) (j := i.toNat) (v := xs[i.toNat]) (List.getElem?_eq_getElem h2)
  rw [show ((i.toNat : Nat) : Int) = i by omega] at h3
  exact ⟨i.toNat, _, by omega, List.getElem?_eq_getElem h2, h3⟩
theorem int_at {ns : List Int} {i : Nat} {y : V} (h : (ns.map V.int)[i]? = some y) : ∃ z, y = V.int z ∧ ns[i]? = some z := by
  rw [List.getElem?_map] at h
  cases e : ns[i]? with
  | none =>
    rw [e] at h
    cases h
  | some z =>
    rw [e] at h
    exact ⟨z, (Option.some.inj h).symm, rfl⟩
theorem cut_ints (ns : List Int) (lo hi : Option Int) : ∃ ms : List Int, ms.length ≤ ns.length ∧ cutV (ns.map V.int) lo hi = ms.map V.int := by
  unfold cutV
  rw [← List.map_drop, ← List.map_take]
  exact ⟨_, by rw [List.length_take, List.length_drop]; omega, rfl⟩
theorem yes_if {σ : L2.St} {H : Hp} {A B : Hp → Prop} (h : A H) : tYes σ H (fun b H3 => if b = true then A H3 else B H3) := by
  show if true = true then A H else B H
  exact iteT h

structure Txt (K : PySem.W.Frag) (mg : Str → Option Value) : Prop where
  h_p_is_whole : Has K mg "is_whole" s_p_is_whole ["thing"]
  h_p_is_count : Has K mg "is_count" s_p_is_count ["thing"]
  h_p_dealt : Has K mg "dealt" s_p_dealt ["total", "caps", "weights"]
  h_p_refuse_no_list : Has K mg "refuse_no_list" s_p_refuse_no_list ["thing"]
  h_p_refuse_no_counts : Has K mg "refuse_no_counts" s_p_refuse_no_counts ["things"]
  h_p_refuse_no_weights : Has K mg "refuse_no_weights" s_p_refuse_no_weights ["weights", "many"]
  h_p_by_level : Has K mg "by_level" s_p_by_level ["total", "limits", "weights", "binds"]
  h_p_unbound : Has K mg "unbound" s_p_unbound ["total", "limits", "weights", "binds"]
  h_p_cap_binds : Has K mg "cap_binds" s_p_cap_binds ["cap", "weight", "top", "bottom"]
  h_p_running_parts : Has K mg "running_parts" s_p_running_parts ["room", "weights"]
  h_p_in_lowest_terms : Has K mg "in_lowest_terms" s_p_in_lowest_terms ["top", "bottom"]
  h_cell_at : Has K mg "_law_cell_at" s_cell_at ["_law_script", "_law_k"]
  h_mixed : Has K mg "_law_mixed" s_mixed ["_law_cell", "_law_k"]
  h_source : Has K mg "_law_source" s_source ["_law_cell"]
  h_next : Has K mg "_law_next" s_next ["_law_source_here", "_law_many_here"]
  h_upto : Has K mg "_law_upto" s_upto ["_law_source_here", "_law_far"]
  h_some : Has K mg "_law_some" s_some ["_law_source_here", "_law_far", "_law_near", "_law_many_here"]
  h_weights : Has K mg "_law_weights" s_weights ["_law_source_here", "_law_many_here"]
  h_many : Has K mg "_law_many" s_many ["_law_source_here"]
  h_total : Has K mg "_law_total" s_total ["_law_source_here", "_law_most"]
  h_shared : Has K mg "_law_shared" s_shared ["_law_one", "_law_other"]
  h_whole : Has K mg "_law_whole" s_whole ["_law_found"]
  h_kinds : Has K mg "_law_kinds" s_kinds ["_law_found", "_law_many_here"]
  h_lesser : Has K mg "_law_lesser" s_lesser ["_law_cap", "_law_part", "_law_bottom"]
  h_rest_right : Has K mg "_law_rest_right" s_rest_right ["_law_told", "_law_caps", "_law_weights_here", "_law_top", "_law_bottom"]
  h_right : Has K mg "_law_right" s_right ["_law_found", "_law_total_here", "_law_caps", "_law_weights_here"]
  h_nought : Has K mg "_law_nought" s_nought ["_law_caps"]
  m_isinstance : mg "isinstance" = none
  m_int : mg "int" = none
  m_bool : mg "bool" = none
  m_len : mg "len" = none
  m_zip : mg "zip" = none
  m_sum : mg "sum" = none
  m_list : mg "list" = none
  m_enumerate : mg "enumerate" = none
  m_range : mg "range" = none
  m_min : mg "min" = none
  m_max : mg "max" = none
  m_tuple : mg "tuple" = none
  m_all : mg "all" = none
/-! ### the source of draws: a list of three numbers -/
def Src (H : Hp) (p : Addr) : Prop := ∃ a b c : Int, H p = some (.lst [.int a, .int b, .int c])
theorem Src.ne_new {H : Hp} {p q : Addr} (h : Src H p) (n : H q = none) : q ≠ p := by
  obtain ⟨a, b, c, e⟩ := h
  exact (ne_of_none e n).symm
theorem Src.keep {H : Hp} {p q : Addr} {o : HO} (h : Src H p) (n : H q = none) : Src (upd H q o) p := by
  obtain ⟨a, b, c, e⟩ := h
  exact ⟨a, b, c, by rw [upd_ne (ne_of_none e n)]; exact e⟩
theorem Src.same {H H' : Hp} {p : Addr} (h : Src H p) (s : Same H H') : Src H' p := by
  obtain ⟨a, b, c, e⟩ := h
  exact ⟨a, b, c, s _ _ e⟩
def spCellAt (K : PySem.W.Frag) : Sp := fun vs H Q _ => ∃ (l : Addr) (ns : List Int) (j : Nat), vs = [.ref l, .int (j : Int)] ∧ SqL K H l (ns.map V.int) ∧ ∀ z : Int, Q (.int z) H
def spMixed : Sp := fun vs H Q _ => ∃ c k : Int, vs = [.int c, .int k] ∧ ∀ r : Int, Q (.int r) H
def spSource : Sp := fun vs H Q _ => ∃ c : Int, vs = [.int c] ∧ ∀ p H', H p = none → Src H' p → Same H H' → Q (.ref p) H'
def spNext : Sp := fun vs H Q _ => ∃ (p : Addr) (m : Int), vs = [.ref p, .int m] ∧ 0 < m ∧ m < 2 ^ 100 ∧ Src H p ∧ ∀ (r : Int) H', 0 ≤ r → r < m → Src H' p → Off p H H' → Q (.int r) H'
section
variable {P : Program} {w : World} {K : PySem.W.Frag} {mg : Str → Option Value} {base : Heap}
theorem ok_cell_at (T : Txt K mg) : Ok P w K mg base CX0 "_law_cell_at" s_cell_at 1 ["_law_script", "_law_k"] (spCellAt K) := by
  refine T.h_cell_at.ok sc_cell_at (fun vs H Q E h => ?_) (fun f cdv A outer s H vs Q E hr h => ?_)
  · obtain ⟨l, ns, j, rfl, _⟩ := h; rfl
  obtain ⟨l, ns, j, rfl, hs, q⟩ := h
  refine ⟨_, (pss_cons (ps_if (pt_cmpR op_lt (pv 1) (pe_callB call_len (by rfl) T.m_len (by decide +kernel) (pa_cons (pv 0) pa_nil)) (nomark _))
      (pss_one (ps_ret (pe_ix ix_list (pv 0) (pv 1) (fun _ _ => rfl))))
      pss_nil)
      (pss_one (ps_ret pe_int))), ?_⟩
  refine ⟨_, rfl, _, rfl, _, _, rfl, .inl ⟨_, hs, rfl⟩, _, _, rfl, rfl, _, rfl, ite2 (fun e => ?_) (fun e => ?_)⟩
  · have e1 := of_decide_eq_true e
    obtain ⟨v, hv, ha⟩ := atI_mem (xs := ns.map V.int) (i := (j : Int)) (by omega) e1
    obtain ⟨z, _, rfl⟩ := List.mem_map.mp hv
    exact ⟨_, rfl, _, rfl, _, _, _, _, rfl, rfl, hs, ha, q z⟩
  · exact q 0
theorem ok_mixed (T : Txt K mg) : Ok P w K mg base CX0 "_law_mixed" s_mixed 1 ["_law_cell", "_law_k"] spMixed := by
  refine T.h_mixed.ok sc_mixed (fun vs H Q E h => ?_) (fun f cdv A outer s H vs Q E hr h => ?_)
  · obtain ⟨l, j, rfl, _⟩ := h; rfl
  obtain ⟨c, k, rfl, q⟩ := h
  refine ⟨_, (pss_cons (ps_set (i := 2) sc_mixed.nd rfl (by first | exact Or.inl rfl | exact Or.inr rfl) (pe_op op_add (pe_op op_mod (pv 0) pe_int) (pe_op op_mul (pe_op op_fdivW (pv 0) pe_int) pe_int)))
      (pss_cons (ps_set (i := 2) sc_mixed.nd rfl (by first | exact Or.inl rfl | exact Or.inr rfl) (pe_op op_mod (pe_op op_mul (pe_op op_add (pe_op op_add (pv 2) (pe_op op_mul pe_int (pv 1))) pe_int) pe_int) pe_int))
      (pss_cons (ps_set (i := 2) sc_mixed.nd rfl (by first | exact Or.inl rfl | exact Or.inr rfl) (pe_op op_mod (pe_op op_mul (pv 2) (pe_op op_add (pe_op op_add (pe_op op_fdiv (pv 2) pe_int) pe_int) (pv 1))) pe_int))
      (pss_one (ps_ret (pe_op op_mod (pe_op op_mul (pv 2) (pe_op op_add (pe_op op_fdiv (pv 2) pe_int) pe_int)) pe_int)))))), ?_⟩
  refine ⟨_, rfl, _, _, rfl, rfl, (by show (0 : Int) < 2147483563; decide), _, rfl, _, _, rfl, rfl, wide_div (b := 40) (by decide) (by decide) (by decide) (by decide), _, _, rfl, rfl, .inr ⟨by decide, by decide⟩, _, _, rfl, rfl, ?_⟩
  refine ⟨_, rfl, _, rfl, _, _, rfl, rfl, .inl ⟨by decide, by decide⟩, _, _, rfl, rfl, _, _, rfl, rfl, _, _, rfl, rfl, .inr ⟨by decide, by decide⟩, _, _, rfl, rfl, (by show (0 : Int) < 2147483563; decide), ?_⟩
  have m1 : ∀ a : Int, (0 : Int) ≤ a % 2147483563 ∧ a % 2147483563 < 2147483563 := fun a => ⟨Int.emod_nonneg a (by decide), Int.emod_lt_of_pos a (by decide)⟩
  have m2 : ∀ a : Int, (0 : Int) ≤ a % 2147483549 ∧ a % 2147483549 < 2147483549 := fun a => ⟨Int.emod_nonneg a (by decide), Int.emod_lt_of_pos a (by decide)⟩
  generalize hx : ((c % 2147483563 + c / 2147483563 * 40009 + 52711 * k + 1) * 39373) % 2147483563 = x
  have b1 := m1 ((c % 2147483563 + c / 2147483563 * 40009 + 52711 * k + 1) * 39373)
  rw [hx] at b1
  refine ⟨_, rfl, _, rfl, _, _, rfl, rfl, ⟨by decide, by decide⟩, _, _, rfl, rfl, _, rfl, _, _, rfl, rfl, _, _, rfl, rfl, .inl ⟨by omega, by omega⟩, _, _, rfl, rfl, (by show (0 : Int) < 2147483549; decide), ?_⟩
  generalize hy : (x * (x / 1019 + 20011 + k)) % 2147483549 = y
  have b2 := m2 (x * (x / 1019 + 20011 + k))
  rw [hy] at b2
  refine ⟨_, rfl, _, rfl, _, _, rfl, rfl, ⟨by decide, by decide⟩, _, _, rfl, rfl, _, _, rfl, rfl, .inl ⟨by omega, by omega⟩, _, _, rfl, rfl, (by show (0 : Int) < 2147483497; decide), ?_⟩
  exact q _
theorem ok_source (T : Txt K mg) : Ok P w K mg base CX0 "_law_source" s_source 1 ["_law_cell"] spSource := by
  refine T.h_source.ok sc_source (fun vs H Q E h => ?_) (fun f cdv A outer s H vs Q E hr h => ?_)
  · obtain ⟨c, rfl, _⟩ := h; rfl
  obtain ⟨c, rfl, q⟩ := h
  refine ⟨_, (pss_one (ps_ret (pe_lst (pa_cons (pv 0) (pa_cons (pv 0) (pa_cons pe_int pa_nil)))))), ?_⟩
  refine ⟨_, rfl, _, rfl, (by show 3 ≤ sizeLine; decide), fun p np => ?_⟩
  exact q p _ np ⟨c, c, 0, upd_same⟩ (same_upd np)
theorem ok_next (T : Txt K mg) : Ok P w K mg base CX0 "_law_next" s_next 2 ["_law_source_here", "_law_many_here"] spNext := by
  have O_mixed := ok_mixed (P := P) (w := w) (base := base) T
  refine T.h_next.ok sc_next (fun vs H Q E h => ?_) (fun f cdv A outer s H vs Q E hr h => ?_)
  · obtain ⟨p, m, rfl, _⟩ := h; rfl
  obtain ⟨p, m, rfl, m0, m1, ⟨a, b, c, hp⟩, q⟩ := h
  have sq : SqL K H p [.int a, .int b, .int c] := .of hp
  have a0 : atI [V.int a, V.int b, V.int c] 0 = some (.int a) := atI_nat (j := 0) rfl
  have a1 : atI [V.int a, V.int b, V.int c] 1 = some (.int b) := atI_nat (j := 1) rfl
  have a2 : atI [V.int a, V.int b, V.int c] 2 = some (.int c) := atI_nat (j := 2) rfl
  have hm : CDivW a m := wide_div (b := 100) m0 (by omega) (by decide) (by decide)
  refine ⟨_, (pss_cons (ps_if (pt_cmpR op_ge (pe_ix ix_list (pv 0) pe_int (fun _ _ => rfl)) (pe_op op_pow pe_int pe_int) (nomark _))
      (pss_cons (ps_set (i := 2) sc_next.nd rfl (by first | exact Or.inl rfl | exact Or.inr rfl) (pe_op op_mod (pe_ix ix_list (pv 0) pe_int (fun _ _ => rfl)) (pv 1)))
      (pss_cons (ps_asg (pe_op op_fdivW (pe_ix ix_list (pv 0) pe_int (fun _ _ => rfl)) (pv 1)) (pg_sub (pv 0) pe_int set_list))
      (pss_one (ps_ret (pv 2)))))
      pss_nil)
      (pss_cons (ps_asg (pe_op op_add (pe_ix ix_list (pv 0) pe_int (fun _ _ => rfl)) pe_int) (pg_sub (pv 0) pe_int set_list))
      (pss_one (ps_ret (pe_op op_mod (callO O_mixed (hr.mono (by decide)) (by rfl) (pa_cons (pe_ix ix_list (pv 0) pe_int (fun _ _ => rfl)) (pa_cons (pe_ix ix_list (pv 0) pe_int (fun _ _ => rfl)) pa_nil))) (pv 1)))))), ?_⟩
  refine ⟨_, rfl, _, _, _, _, rfl, rfl, sq, a0, _, _, rfl, rfl, ⟨by decide, by decide, by decide⟩, _, _, rfl, rfl, _, rfl, ite2 (fun _ => ?_) (fun _ => ?_)⟩
  · refine ⟨_, rfl, _, _, _, _, rfl, rfl, sq, a0, _, rfl, _, _, rfl, rfl, m0, _, rfl, _, _, _, _, rfl, rfl, sq, a0, _, rfl, _, _, rfl, rfl, hm, _, rfl, _, _, _, 0, rfl, rfl, hp, rfl, _, rfl, ?_⟩
    exact q _ _ (Int.emod_nonneg _ (by omega)) (Int.emod_lt_of_pos _ m0) ⟨_, _, _, upd_same⟩ off_upd
  · refine ⟨_, rfl, _, _, _, _, rfl, rfl, sq, a2, _, _, rfl, rfl, _, rfl, _, _, _, 2, rfl, rfl, hp, rfl, ?_⟩
    have hp2 : (upd H p (.lst [.int a, .int b, .int (c + 1)])) p = some (.lst [.int a, .int b, .int (c + 1)]) := upd_same
    have sq2 : SqL K (upd H p (.lst [.int a, .int b, .int (c + 1)])) p [.int a, .int b, .int (c + 1)] := .of hp2
    refine ⟨_, rfl, _, _, _, _, rfl, rfl, sq2, atI_nat (j := 1) rfl, _, rfl, _, _, _, _, rfl, rfl, sq2, atI_nat (j := 2) rfl, _, _, rfl, fun r => ?_⟩
    refine ⟨_, rfl, _, _, rfl, rfl, m0, ?_⟩
    exact q _ _ (Int.emod_nonneg _ (by omega)) (Int.emod_lt_of_pos _ m0) ⟨_, _, _, upd_same⟩ off_upd
end

/-! ### the cells that a law walks -/
theorem cells_it {K : PySem.W.Frag} {σ : L2.St} {H : Hp} {a : Addr} {ns : List Int} {n : Int} {R : It → Hp → Prop} (h0 : σ[0]? = some (some (.ref a))) (hS : SqL K H a (ns.map V.int)) (hl : ns.length ≤ 63)
    (k : ∀ (L : Addr) (zs : List Int) (HB : Hp), HB L = some (.lst (zs.map V.int)) → Same H HB → R (Itl K L) HB) :
    iList K (tOp rCat (tLst (tCons (tCall (spCellAt K) [] E0 (tCons (tVar 0) (tCons (tC (.int 0)) tNil))) tNil)) (tSl (rSlL K) (tVar 0) (tPart (tC (.int 1))) (tPart (tC (.int n))))) σ H R := by
  refine ⟨_, h0, a, ns, 0, rfl, hS, fun z0 => ⟨(by show 1 ≤ sizeLine; decide), fun p1 n1 => ?_⟩⟩
  obtain ⟨ms, hms, ecut⟩ := cut_ints ns (some 1) (some n)
  refine ⟨_, h0, 1, rfl, n, rfl, a, ns.map V.int, rfl, (same_upd n1).seq hS, fun p2 n2 => ?_⟩
  have g1 : (upd (upd H p1 (.lst [.int z0])) p2 (.lst (cutV (ns.map V.int) (some 1) (some n)))) p1 = some (.lst [.int z0]) := by
    rw [upd_ne (ne_of_none upd_same n2)]
    exact upd_same
  refine ⟨p1, p2, _, _, rfl, rfl, g1, upd_same, ?_, fun L nL => ?_⟩
  · rw [ecut, List.length_map]
    show 1 + ms.length ≤ sizeLine
    exact Nat.le_trans (by omega : 1 + ms.length ≤ 64) (by decide)
  have sB := (same_upd (o := .lst [.int z0]) n1).trans ((same_upd n2).trans (same_upd (o := .lst ([V.int z0] ++ cutV (ns.map V.int) (some 1) (some n))) nL))
  refine ⟨L, rfl, ⟨_, .of upd_same⟩, k L (z0 :: ms) _ ?_ sB⟩
  rw [upd_same, ecut]
  rfl
/-- what a for asks of the thing that it walks -/
def forR (g : TG) (tb : TS) (D : Ends) (σ : L2.St) (J : It) (H1 : Hp) : Prop :=
  ∃ W : Nat → Nat → L2.St → Hp → Prop, (∃ m, W 0 m σ H1) ∧ ∀ i m σ H, W i m σ H → (J.stop i H ∧ D.nx σ H) ∨
    (J.go i H ∧ ∃ N : L2.St → Hp → Prop, (∀ σ' H', N σ' H' → ∃ m', m' < m ∧ W (i + 1) m' σ' H') ∧ ∀ x H', J.yld i H x H' → g x σ H' fun σ2 H2 => tb { D with nx := N, ct := N, bk := D.nx } σ2 H2)
theorem cells_for {K : PySem.W.Frag} {σ : L2.St} {H : Hp} {a : Addr} {ns : List Int} {n : Int} {g : TG} {tb u : TS} {D : Ends} (h0 : σ[0]? = some (some (.ref a))) (hS : SqL K H a (ns.map V.int)) (hl : ns.length ≤ 63)
    (k : ∀ (L : Addr) (zs : List Int) (HB : Hp), HB L = some (.lst (zs.map V.int)) → Same H HB → forR g tb { D with nx := u D } σ (Itl K L) HB) :
    tSeq (tFor (iList K (tOp rCat (tLst (tCons (tCall (spCellAt K) [] E0 (tCons (tVar 0) (tCons (tC (.int 0)) tNil))) tNil)) (tSl (rSlL K) (tVar 0) (tPart (tC (.int 1))) (tPart (tC (.int n)))))) g tb) u D σ H :=
  cells_it (R := forR g tb { D with nx := u D } σ) h0 hS hl k

/-! ### zip of three lists -/
/-- three lists as they stand at each turn, their items in new triples -/
def Iz3 (K : PySem.W.Frag) (a b c : Addr) : It :=
  ⟨fun i H => ∃ (xs ys zs : List V) (x y z : V), SqL K H a xs ∧ SqL K H b ys ∧ SqL K H c zs ∧ xs[i]? = some x ∧ ys[i]? = some y ∧ zs[i]? = some z,
    fun i H v H' => ∃ T x y z, v = .ref T ∧ H T = none ∧ H' = upd H T (.tup [x, y, z]) ∧ (∀ xs, SqL K H a xs → xs[i]? = some x) ∧ (∀ ys, SqL K H b ys → ys[i]? = some y) ∧ ∀ zs, SqL K H c zs → zs[i]? = some z,
    fun i H => ∃ xs ys zs : List V, SqL K H a xs ∧ SqL K H b ys ∧ SqL K H c zs ∧ i ≤ xs.length ∧ i ≤ ys.length ∧ i ≤ zs.length ∧ (xs.length = i ∨ ys.length = i ∨ zs.length = i)⟩
theorem turn_z3 {P : Program} {w : World} {K : PySem.W.Frag} {elts : List Expr} {kk : Nat} {tpos : Pos} {a b c zz TI TO j1 j2 j3 : Addr} (S : ZipSep3 zz TI TO j1 j2 j3 [j1, a] [j2, b] [j3, c]) :
    Turn P w K (.Tuple elts kk tpos) (Iz3 K a b c) [zz, TI, TO, j1, j2, j3] zz (fun i h => IsZip h zz TI TO .none ∧ IsTupOf3 h TI (.ref j1) (.ref j2) (.ref j3) ∧ (∃ x y z, IsTupOf3 h TO x y z) ∧ h.IsListIter j1 a i ∧ h.IsListIter j2 b i ∧ h.IsListIter j3 c i) where
  mem := List.mem_cons_self
  obj := fun i h st d hd => by
    obtain ⟨hz, hTI, ⟨x, y, z, hTO⟩, ⟨o1, e1, _, d1⟩, ⟨o2, e2, _, d2⟩, ⟨o3, e3, _, d3⟩⟩ := st
    simp only [List.mem_cons, List.not_mem_nil, or_false] at hd
    rcases hd with rfl | rfl | rfl | rfl | rfl | rfl
    · exact ⟨_, hz, fun v q => nomatch q⟩
    · exact ⟨_, hTI, fun v q => nomatch q⟩
    · exact ⟨_, hTO, fun v q => nomatch q⟩
    · exact ⟨o1, e1, fun v q => by rw [d1] at q; cases q⟩
    · exact ⟨o2, e2, fun v q => by rw [d2] at q; cases q⟩
    · exact ⟨o3, e3, fun v q => by rw [d3] at q; cases q⟩
  keep := fun i h h' st k => by
    obtain ⟨hz, hTI, ⟨x, y, z, hTO⟩, h1, h2, h3⟩ := st
    exact ⟨k zz (by simp) _ hz, k TI (by simp) _ hTI, ⟨x, y, z, k TO (by simp) _ hTO⟩, h1.at fun o q => k j1 (by simp) o q, h2.at fun o q => k j2 (by simp) o q, h3.at fun o q => k j3 (by simp) o q⟩
  item := by
    intro X eP ew eK calm i pins s σ H E I hf st hg
    subst eP ew eK
    obtain ⟨hz, hTI, ⟨x0, y0, z0, hTO⟩, h1, h2, h3⟩ := st
    obtain ⟨xs, ys, zs, x, y, z, q1, q2, q3, hx, hy, hz'⟩ := hg
    obtain ⟨its1, rv1, pl1, _⟩ := I.list q1
    obtain ⟨its2, rv2, pl2, _⟩ := I.list q2
    obtain ⟨its3, rv3, pl3, _⟩ := I.list q3
    obtain ⟨u1, hu1, ru1⟩ := rv1.get hx
    obtain ⟨u2, hu2, ru2⟩ := rv2.get hy
    obtain ⟨u3, hu3, ru3⟩ := rv3.get hz'
    have hd : X.A.in1.handled = none := I.ok.hd calm
    have lt1 : i < its1.toArray.size := by
      rw [List.size_toArray]
      exact (List.getElem?_eq_some_iff.mp hu1).1
    have lt2 : i < its2.toArray.size := by
      rw [List.size_toArray]
      exact (List.getElem?_eq_some_iff.mp hu2).1
    have lt3 : i < its3.toArray.size := by
      rw [List.size_toArray]
      exact (List.getElem?_eq_some_iff.mp hu3).1
    have ne1 : a ≠ j1 := fun e => by
      obtain ⟨o, ho, hc, _⟩ := h1
      obtain ⟨o', ho', hc', _⟩ := pl1.isList
      rw [e, ho] at ho'
      cases ho'
      rw [hc] at hc'
      exact absurd hc' (by decide +kernel)
    have ne2 : b ≠ j2 := fun e => by
      obtain ⟨o, ho, hc, _⟩ := h2
      obtain ⟨o', ho', hc', _⟩ := pl2.isList
      rw [e, ho] at ho'
      cases ho'
      rw [hc] at hc'
      exact absurd hc' (by decide +kernel)
    have ne3 : c ≠ j3 := fun e => by
      obtain ⟨o, ho, hc, _⟩ := h3
      obtain ⟨o', ho', hc', _⟩ := pl3.isList
      rw [e, ho] at ho'
      cases ho'
      rw [hc] at hc'
      exact absurd hc' (by decide +kernel)
    have zlt : zz < s.heap.objs.size := Heap.lt_size hz
    refine wpAny_pyNext_zipD3_item S (Draws.list hd j1 a ne1 its1.toArray) (Draws.list hd j2 b ne2 its2.toArray) (Draws.list hd j3 c ne3 its3.toArray) hz hTI hTO ⟨h1, pl1.isList⟩ ⟨h2, pl2.isList⟩ ⟨h3, pl3.isList⟩ lt1 lt2 lt3 fun v1 v2 v3 h' tk y1 y2 y3 z' TO' st1 st2 st3 hT hsz hk => ?_
    have ev1 : v1 = u1 := by
      have y1' : its1.toArray[i]? = some v1 := y1
      rw [List.getElem?_toArray, hu1] at y1'
      exact (Option.some.inj y1').symm
    have ev2 : v2 = u2 := by
      have y2' : its2.toArray[i]? = some v2 := y2
      rw [List.getElem?_toArray, hu2] at y2'
      exact (Option.some.inj y2').symm
    have ev3 : v3 = u3 := by
      have y3' : its3.toArray[i]? = some v3 := y3
      rw [List.getElem?_toArray, hu3] at y3'
      exact (Option.some.inj y3').symm
    subst ev1 ev2 ev3
    refine ⟨_, rfl, wpAny_letOwnedTupleGo_zip (s := { s with heap := h', toks := tk }) z' fun h'' z'' sb => ?_⟩
    have hT2 : h''.get? s.heap.objs.size = some { cls := .type "tuple", data := .seq #[v1, v2, v3] } := (sb.2 _ (Nat.ne_of_gt zlt)).trans hT
    have new : ObjOk X.prog X.w (upd H s.heap.objs.size (.tup [x, y, z])) h'' s.heap.objs.size (.tup [x, y, z]) :=
      ⟨by show 3 ≤ sizeLine; decide, [v1, v2, v3], .cons ru1 (.cons ru2 (.cons ru3 .nil)), ⟨_, hT2, rfl, _, rfl⟩⟩
    have I1 : Inv X pins σ (upd H s.heap.objs.size (.tup [x, y, z])) { s with heap := h'', toks := tk } :=
      I.turnedNew (t' := tk) (ch := [zz, TI, TO, j1, j2, j3]) (fun d o hb q => (sb.2 d (fun q' => hb (by simp [q']))).trans (hk d o (fun q' => hb (by simp [q'])) (fun q' => hb (by simp [q'])) (fun q' => hb (by simp [q'])) (fun q' => hb (by simp [q'])) (fun q' => hb (by simp [q'])) q)) hf (Nat.le_refl _) new
    refine ⟨.ref s.heap.objs.size, _, I1, rfl, ⟨_, x, y, z, rfl, I.hok.fresh (Nat.le_refl _), rfl, fun l hl => by rw [I.list_inj hl q1]; exact hx, fun l hl => by rw [I.list_inj hl q2]; exact hy, fun l hl => by rw [I.list_inj hl q3]; exact hz'⟩, ⟨z'', ?_, ⟨v1, v2, v3, ?_⟩, ?_, ?_, ?_⟩, fun d hdm => ?_⟩
    · exact (sb.2 _ S.TIz).trans (hk _ _ S.TIz S.TITO S.TIi1 S.TIi2 S.TIi3 hTI)
    · exact (sb.2 _ S.TOz).trans TO'
    · exact st1.1.at fun o q => (sb.2 _ S.zi1.symm).trans q
    · exact st2.1.at fun o q => (sb.2 _ S.zi2.symm).trans q
    · exact st3.1.at fun o q => (sb.2 _ S.zi3.symm).trans q
    · have hlt : d < s.heap.objs.size := by
        have hdm' := hdm
        simp only [List.mem_cons, List.not_mem_nil, or_false] at hdm'
        obtain ⟨_, g1, _⟩ := h1
        obtain ⟨_, g2, _⟩ := h2
        obtain ⟨_, g3, _⟩ := h3
        rcases hdm' with rfl | rfl | rfl | rfl | rfl | rfl
        · exact zlt
        · exact Heap.lt_size hTI
        · exact Heap.lt_size hTO
        · exact Heap.lt_size g1
        · exact Heap.lt_size g2
        · exact Heap.lt_size g3
      rw [upd_ne (Nat.ne_of_lt hlt)]
      exact (hf d hdm).1
  done := by
    intro X eP ew eK calm i pins s σ H E I hf st hg
    subst eP ew eK
    obtain ⟨hz, hTI, ⟨x0, y0, z0, hTO⟩, h1, h2, h3⟩ := st
    obtain ⟨xs, ys, zs, q1, q2, q3, le1, le2, le3, hend⟩ := hg
    obtain ⟨its1, rv1, pl1, _⟩ := I.list q1
    obtain ⟨its2, rv2, pl2, _⟩ := I.list q2
    obtain ⟨its3, rv3, pl3, _⟩ := I.list q3
    have l1 := rv1.length
    have l2 := rv2.length
    have l3 := rv3.length
    have hd : X.A.in1.handled = none := I.ok.hd calm
    have ne1 : a ≠ j1 := fun e => by
      obtain ⟨o, ho, hc, _⟩ := h1
      obtain ⟨o', ho', hc', _⟩ := pl1.isList
      rw [e, ho] at ho'
      cases ho'
      rw [hc] at hc'
      exact absurd hc' (by decide +kernel)
    have ne2 : b ≠ j2 := fun e => by
      obtain ⟨o, ho, hc, _⟩ := h2
      obtain ⟨o', ho', hc', _⟩ := pl2.isList
      rw [e, ho] at ho'
      cases ho'
      rw [hc] at hc'
      exact absurd hc' (by decide +kernel)
    have ne3 : c ≠ j3 := fun e => by
      obtain ⟨o, ho, hc, _⟩ := h3
      obtain ⟨o', ho', hc', _⟩ := pl3.isList
      rw [e, ho] at ho'
      cases ho'
      rw [hc] at hc'
      exact absurd hc' (by decide +kernel)
    refine wpAny_pyNext_zipD3_end S (Draws.list hd j1 a ne1 its1.toArray) (Draws.list hd j2 b ne2 its2.toArray) (Draws.list hd j3 c ne3 its3.toArray) hz hTI hTO ⟨h1, pl1.isList⟩ ⟨h2, pl2.isList⟩ ⟨h3, pl3.isList⟩ (by rw [List.size_toArray]; omega) (by rw [List.size_toArray]; omega) (by rw [List.size_toArray]; omega) ?_ fun h' tk hk => ⟨rfl, ?_⟩
    · rw [List.size_toArray, List.size_toArray, List.size_toArray]
      omega
    · exact I.turnedL (t' := tk) (ch := [zz, TI, TO, j1, j2, j3]) (fun d o hb q => hk d o (fun q' => hb (by simp [q'])) (fun q' => hb (by simp [q'])) (fun q' => hb (by simp [q'])) (fun q' => hb (by simp [q'])) (fun q' => hb (by simp [q'])) q) hf
  self := fun _ _ _ _ _ st h => wpAny_pyIter_zip st.1 h
def iZ3 (K : PySem.W.Frag) (ta : TA) : TI := fun σ H R => ta σ H fun vs H1 => ∃ a b c xs ys zs, vs = [.ref a, .ref b, .ref c] ∧ SqL K H1 a xs ∧ SqL K H1 b ys ∧ SqL K H1 c zs ∧ R (Iz3 K a b c) H1
theorem pi_zip3 {X : Cx} {e e2 e3 : Expr} {ta : TA} {p pos tpos : Pos} {elts : List Expr} {kk : Nat} (hg : Gl X "zip") (hm : X.mg "zip" = none) (ha : PA X [e, e2, e3] ta)
    (hs : starEach [e, e2, e3] X.env = (false, eval e X.env) :: starEach [e2, e3] X.env := by rfl) (hpl : (backTo pos (starEach [e2, e3] X.env)).any (·.1) = false := by rfl) :
    PI X (.Tuple elts kk tpos) (.Call (.Name "zip" p) [e, e2, e3] [] pos) (iZ3 X.K ta) := by
  refine ⟨fun pins s σ H R I h => ?_⟩
  refine Call_ (ld_blt I hg hm PyProof.Rows.boot_zip (PyProof.Rows.callWith_type1 (thn (ha.run pos pins s σ H _ I h) fun us s1 ⟨vs, H1, I1, r1, q1⟩ => ?_) hs hpl))
  obtain ⟨a, b, c, xs, ys, zs, ex, h1, h2, h3, q⟩ := q1
  subst ex
  obtain ⟨u1, us1, rfl⟩ : ∃ u r, us = u :: r := by cases r1; exact ⟨_, _, rfl⟩
  cases r1 with
  | cons e1 r2 =>
    cases r2 with
    | cons e2 r3 =>
      cases r3 with
      | cons e3 r4 =>
        cases r4
        cases e1
        cases e2
        cases e3
        obtain ⟨its1, rv1, pl1, _⟩ := I1.list h1
        obtain ⟨its2, rv2, pl2, _⟩ := I1.list h2
        obtain ⟨its3, rv3, pl3, _⟩ := I1.list h3
        refine zip_begins3 (begins_list a its1.toArray) (begins_list b its2.toArray) (begins_list c its3.toArray) pl1.isList pl2.isList pl3.isList fun h' hz hTI hTO g1 g2 g3 hsz hk => wpAny_pyIter_zip hz ?_
        have I2 : Inv X pins σ H1 { s1 with heap := h' } := I1.kept (t' := s1.toks) hk
        refine ⟨s1.heap.objs.size + 5, [s1.heap.objs.size + 5, s1.heap.objs.size + 3, s1.heap.objs.size + 4, s1.heap.objs.size, s1.heap.objs.size + 1, s1.heap.objs.size + 2], _, _, H1, rfl, I2, turn_z3 (a := a) (b := b) (c := c) (zip_sep3 (fun d hd => by rw [List.mem_singleton.mp hd]; exact pl1.lt) (fun d hd => by rw [List.mem_singleton.mp hd]; exact pl2.lt) (fun d hd => by rw [List.mem_singleton.mp hd]; exact pl3.lt)), ⟨hz, hTI, ⟨_, _, _, hTO⟩, ⟨_, g1, rfl, rfl⟩, ⟨_, g2, rfl, rfl⟩, ⟨_, g3, rfl, rfl⟩⟩, fun d hd => ?_, q⟩
        have hle : s1.heap.objs.size ≤ d := by
          simp only [List.mem_cons, List.not_mem_nil, or_false] at hd
          rcases hd with rfl | rfl | rfl | rfl | rfl | rfl
          · exact Nat.le_add_right _ _
          · exact Nat.le_add_right _ _
          · exact Nat.le_add_right _ _
          · exact Nat.le_refl _
          · exact Nat.le_add_right _ _
          · exact Nat.le_add_right _ _
        exact I1.fpOk hle (I1.hok.fresh hle)
/-- a for over three lists of one length -/
theorem for_zip3 {K : PySem.W.Frag} {a b c : Addr} {xs ys zs : List V} {n : Nat} (l1 : xs.length = n) (l2 : ys.length = n) (l3 : zs.length = n) {g : TG} {tb : TS} {D : Ends} {σ : L2.St} {H : Hp} (Pv : Nat → L2.St → Hp → Prop) (h0 : Pv 0 σ H)
    (hG : ∀ i σ H, i ≤ n → Pv i σ H → SqL K H a xs ∧ SqL K H b ys ∧ SqL K H c zs)
    (hs : ∀ i x y z T σ H, xs[i]? = some x → ys[i]? = some y → zs[i]? = some z → Pv i σ H → H T = none → g (.ref T) σ (upd H T (.tup [x, y, z])) fun σ2 H2 => tb { D with nx := Pv (i + 1), ct := Pv (i + 1), bk := D.nx } σ2 H2) (hd : ∀ σ H, Pv n σ H → D.nx σ H) :
    ∃ W : Nat → Nat → L2.St → Hp → Prop, (∃ m, W 0 m σ H) ∧ ∀ i m σ H, W i m σ H → ((Iz3 K a b c).stop i H ∧ D.nx σ H) ∨
      ((Iz3 K a b c).go i H ∧ ∃ N : L2.St → Hp → Prop, (∀ σ' H', N σ' H' → ∃ m', m' < m ∧ W (i + 1) m' σ' H') ∧ ∀ v H', (Iz3 K a b c).yld i H v H' → g v σ H' fun σ2 H2 => tb { D with nx := N, ct := N, bk := D.nx } σ2 H2) := by
  refine ⟨fun i m σ H => m = n - i ∧ i ≤ n ∧ Pv i σ H, ⟨n, rfl, Nat.zero_le _, h0⟩, ?_⟩
  rintro i m σ H ⟨rfl, hi, p⟩
  obtain ⟨q1, q2, q3⟩ := hG i σ H hi p
  by_cases hlt : i < n
  · refine .inr ⟨⟨xs, ys, zs, xs[i], ys[i], zs[i], q1, q2, q3, List.getElem?_eq_getElem _, List.getElem?_eq_getElem _, List.getElem?_eq_getElem _⟩, Pv (i + 1), fun σ' H' p' => ⟨_, by omega, rfl, hlt, p'⟩, ?_⟩
    rintro v H' ⟨T, x, y, z, rfl, nT, rfl, f1, f2, f3⟩
    exact hs i x y z T σ H (f1 xs q1) (f2 ys q2) (f3 zs q3) p nT
  · have e : i = n := by omega
    subst e
    exact .inl ⟨⟨xs, ys, zs, q1, q2, q3, by omega, by omega, by omega, .inl l1⟩, hd σ H p⟩

/-! ### levels: pairs of a limit and a weight -/
abbrev Pr := Option Int × Int
def lim (x : Pr) : Int := x.1.getD 0
def sumW (l : List Pr) : Int := (l.map fun x => x.2).sum
def sumL (l : List Pr) : Int := (l.map lim).sum
def bnd : Bool → Pr → Int → Int → Bool
  | true, (none, _), _, _ => false
  | true, (some c, w), top, bot => decide (c * bot ≤ top * w)
  | false, (c, w), top, bot => decide (top * w ≤ c.getD 0 * bot)
theorem bnd_cap {x : Pr} {top bot : Int} (h : bnd true x top bot = true) : x.1 ≠ none ∧ lim x * bot ≤ top * x.2 := by
  obtain ⟨c, w⟩ := x
  cases c with
  | none => cases h
  | some c => exact ⟨by simp, of_decide_eq_true h⟩
theorem bnd_cap_of {x : Pr} {top bot : Int} (h1 : x.1 ≠ none) (h : lim x * bot ≤ top * x.2) : bnd true x top bot = true := by
  obtain ⟨c, w⟩ := x
  cases c with
  | none => exact absurd rfl h1
  | some c => exact decide_eq_true h
theorem bnd_flo {x : Pr} {top bot : Int} (h : bnd false x top bot = true) : top * x.2 ≤ lim x * bot := of_decide_eq_true h
theorem bnd_flo_of {x : Pr} {top bot : Int} (h : top * x.2 ≤ lim x * bot) : bnd false x top bot = true := decide_eq_true h
theorem sum_split (f : Pr → Int) (p b : Pr → Bool) : ∀ l : List Pr, ((l.filter p).map f).sum = ((l.filter fun x => p x && b x).map f).sum + ((l.filter fun x => p x && !b x).map f).sum
  | [] => rfl
  | x :: r => by
    have ih := sum_split f p b r
    cases hp : p x <;> cases hb : b x <;> simp [List.filter_cons, hp, hb] <;> omega
theorem sum_split1 (f : Pr → Int) (p : Pr → Bool) : ∀ l : List Pr, (l.map f).sum = ((l.filter p).map f).sum + ((l.filter fun x => !p x).map f).sum
  | [] => rfl
  | x :: r => by
    have ih := sum_split1 f p r
    cases hp : p x <;> simp [List.filter_cons, hp] <;> omega
theorem sum_nonneg {α : Type} (f : α → Int) : ∀ (l : List α), (∀ x ∈ l, 0 ≤ f x) → 0 ≤ (l.map f).sum
  | [], _ => by simp
  | x :: r, h => by
    have h1 := h x List.mem_cons_self
    have h2 := sum_nonneg f r fun y hy => h y (List.mem_cons_of_mem _ hy)
    simp only [List.map_cons, List.sum_cons]
    omega
/-- Σ a · W ≤ room · Σ w, from each one -/
theorem sum_mul_le (a b : Pr → Int) (u v : Int) : ∀ (l : List Pr), (∀ x ∈ l, a x * u ≤ v * b x) → (l.map a).sum * u ≤ v * (l.map b).sum
  | [], _ => by simp
  | x :: r, h => by
    have h1 := h x List.mem_cons_self
    have h2 := sum_mul_le a b u v r fun y hy => h y (List.mem_cons_of_mem _ hy)
    simp only [List.map_cons, List.sum_cons]
    rw [Int.add_mul, Int.mul_add]
    omega
theorem sum_mul_ge (a b : Pr → Int) (u v : Int) : ∀ (l : List Pr), (∀ x ∈ l, v * b x ≤ a x * u) → v * (l.map b).sum ≤ (l.map a).sum * u
  | [], _ => by simp
  | x :: r, h => by
    have h1 := h x List.mem_cons_self
    have h2 := sum_mul_ge a b u v r fun y hy => h y (List.mem_cons_of_mem _ hy)
    simp only [List.map_cons, List.sum_cons]
    rw [Int.add_mul, Int.mul_add]
    omega
structure Good (ps : List Pr) : Prop where
  w0 : ∀ x ∈ ps, 0 ≤ x.2
  l0 : ∀ x ∈ ps, 0 ≤ lim x
structure Lev (cap : Bool) (total : Int) (ps : List Pr) (p : Pr → Bool) (room W : Int) : Prop where
  pos : ∀ x ∈ ps, p x = true → 0 < x.2
  eW : W = sumW (ps.filter p)
  eR : room = total - sumL (ps.filter fun x => !p x)
  w0 : 0 < W
  r0 : 0 ≤ room
  stay : ∀ x ∈ ps, 0 < x.2 → p x = false → bnd cap x room W = true
  known : ∀ x ∈ ps, p x = false → x.1 ≠ none
  over : if cap = true then (∃ x ∈ ps, p x = true ∧ x.1 = none) ∨ room < sumL (ps.filter p) else (∀ x ∈ ps, x.1 ≠ none) ∧ sumL (ps.filter p) < room
theorem filter_pos {ps : List Pr} {p : Pr → Bool} (h : ∀ x ∈ ps, p x = true → 0 < x.2) (hn : ∃ x ∈ ps, p x = true) : 0 < sumW (ps.filter p) := by
  obtain ⟨x, hx, px⟩ := hn
  have hm : x ∈ ps.filter p := List.mem_filter.mpr ⟨hx, px⟩
  obtain ⟨s, t, e⟩ := List.append_of_mem hm
  unfold sumW
  rw [e, List.map_append, List.sum_append, List.map_cons, List.sum_cons]
  have hx := h x hx px
  have hall : ∀ y ∈ ps.filter p, 0 ≤ y.2 := fun y hy => by
    have := h y (List.mem_filter.mp hy).1 (List.mem_filter.mp hy).2
    omega
  rw [e] at hall
  have h1 := sum_nonneg (fun x : Pr => x.2) s fun y hy => hall y (List.mem_append_left _ hy)
  have h2 := sum_nonneg (fun x : Pr => x.2) t fun y hy => hall y (List.mem_append_right _ (List.mem_cons_of_mem _ hy))
  omega
theorem none_free {ps : List Pr} {p : Pr → Bool} (h : ¬ ∃ x ∈ ps, p x = true) : ps.filter p = [] := by
  rw [List.filter_eq_nil_iff]
  intro x hx px
  exact h ⟨x, hx, px⟩
section
variable {total : Int} {ps : List Pr} {p : Pr → Bool} {room W : Int}
theorem split_not (f : Pr → Int) (b : Pr → Bool) : ((ps.filter fun x => !(p x && !b x)).map f).sum = ((ps.filter fun x => !p x).map f).sum + ((ps.filter fun x => p x && b x).map f).sum := by
  have h1 := sum_split1 f p ps
  have h2 := sum_split1 f (fun x => p x && !b x) ps
  have h3 := sum_split f p b ps
  omega
theorem Lev.step {cap : Bool} (g : Good ps) (h : Lev cap total ps p room W) :
    Lev cap total ps (fun x => p x && !bnd cap x room W) (room - sumL (ps.filter fun x => p x && bnd cap x room W)) (W - sumW (ps.filter fun x => p x && bnd cap x room W)) := by
  have eW := h.eW
  have eR := h.eR
  have hw := h.w0
  have hr := h.r0
  have sW := sum_split (fun x => x.2) p (fun x => bnd cap x room W) ps
  have sL := sum_split lim p (fun x => bnd cap x room W) ps
  have nL := split_not (ps := ps) (p := p) lim (fun x => bnd cap x room W)
  have gW1 := sum_nonneg (fun x : Pr => x.2) (ps.filter fun x => p x && bnd cap x room W) fun x hx => g.w0 x (List.mem_filter.mp hx).1
  have gL1 := sum_nonneg lim (ps.filter fun x => p x && bnd cap x room W) fun x hx => g.l0 x (List.mem_filter.mp hx).1
  have gL2 := sum_nonneg lim (ps.filter fun x => p x && !bnd cap x room W) fun x hx => g.l0 x (List.mem_filter.mp hx).1
  have pos2 : ∀ x ∈ ps, (p x && !bnd cap x room W) = true → 0 < x.2 := fun x hx px => h.pos x hx (by simp at px; exact px.1)
  generalize hq : (ps.filter fun x => p x && bnd cap x room W) = q at sW sL nL gW1 gL1 ⊢
  have hqm : ∀ x ∈ q, x ∈ ps ∧ p x = true ∧ bnd cap x room W = true := fun x hx => by
    rw [← hq] at hx
    have h1 := List.mem_filter.mp hx
    have h2 := h1.2
    simp at h2
    exact ⟨h1.1, h2.1, h2.2⟩
  generalize hf : (ps.filter fun x => p x && !bnd cap x room W) = f at sW sL gL2
  have nf : f = [] ∨ 0 < sumW f := by
    by_cases hn : ∃ x ∈ ps, (p x && !bnd cap x room W) = true
    · right
      rw [← hf]
      exact filter_pos pos2 hn
    · left
      rw [← hf]
      exact none_free hn
  have eW2 : W - sumW q = sumW f := by
    unfold sumW at eW ⊢
    omega
  have eR2 : room - sumL q = total - sumL (ps.filter fun x => !(p x && !bnd cap x room W)) := by
    unfold sumL at eR ⊢
    omega
  have kn : ∀ x ∈ ps, (p x && !bnd cap x room W) = false → x.1 ≠ none := fun x hx hp => by
    cases cap with
    | false => exact (by simpa using h.over : (∀ x ∈ ps, x.1 ≠ none) ∧ _).1 x hx
    | true =>
      cases e : p x with
      | false => exact h.known x hx e
      | true =>
        rw [e] at hp
        have h1 : bnd true x room W = true := by
          cases e3 : bnd true x room W with
          | true => rfl
          | false => rw [e3] at hp; cases hp
        exact (bnd_cap h1).1
  cases cap with
  | true =>
    have key : sumL q * W ≤ room * sumW q := sum_mul_le lim (fun x => x.2) W room q fun x hx => (bnd_cap (hqm x hx).2.2).2
    have hqW : sumW q ≤ W := by
      rcases nf with h0 | h0
      · rw [h0] at eW2
        have : sumW [] = 0 := rfl
        omega
      · omega
    have hLr : sumL q ≤ room := by
      have h1 : room * sumW q ≤ room * W := Int.mul_le_mul_of_nonneg_left hqW hr
      exact Int.le_of_mul_le_mul_right (Int.le_trans key h1) hw
    have ov : (∃ x ∈ ps, (p x && !bnd true x room W) = true ∧ x.1 = none) ∨ room - sumL q < sumL f := by
      have := h.over
      simp only [if_true] at this
      rcases this with ⟨x, hx, px, nx⟩ | h1
      · left
        refine ⟨x, hx, ?_, nx⟩
        rw [px]
        obtain ⟨c, w⟩ := x
        simp only at nx
        subst nx
        rfl
      · right
        unfold sumL at h1 ⊢
        omega
    have w2 : 0 < W - sumW q := by
      rcases nf with h0 | h0
      · exfalso
        rcases ov with ⟨x, hx, px, _⟩ | h1
        · have : x ∈ f := by
            rw [← hf]
            exact List.mem_filter.mpr ⟨hx, px⟩
          rw [h0] at this
          cases this
        · rw [h0] at h1
          have : sumL [] = 0 := rfl
          omega
      · omega
    refine ⟨pos2, by rw [eW2, hf], eR2, w2, by omega, ?_, kn, ?_⟩
    · intro x hx hx0 hp
      have hk := kn x hx hp
      have h1 : lim x * W ≤ room * x.2 := by
        cases e : p x with
        | false => exact (bnd_cap (h.stay x hx hx0 e)).2
        | true =>
          rw [e] at hp
          have h1 : bnd true x room W = true := by
            cases e3 : bnd true x room W with
            | true => rfl
            | false => rw [e3] at hp; cases hp
          exact (bnd_cap h1).2
      refine bnd_cap_of hk ?_
      have h2 : room * (W - sumW q) ≤ (room - sumL q) * W := by
        rw [Int.mul_sub, Int.sub_mul]
        omega
      have h3 : lim x * W * (W - sumW q) ≤ room * x.2 * (W - sumW q) := Int.mul_le_mul_of_nonneg_right h1 (by omega)
      have h4 : x.2 * (room * (W - sumW q)) ≤ x.2 * ((room - sumL q) * W) := Int.mul_le_mul_of_nonneg_left h2 (by omega)
      have e1 : lim x * W * (W - sumW q) = lim x * (W - sumW q) * W := by
        rw [Int.mul_assoc, Int.mul_comm W, ← Int.mul_assoc]
      have e2 : room * x.2 * (W - sumW q) = x.2 * (room * (W - sumW q)) := by
        rw [Int.mul_comm room x.2, Int.mul_assoc]
      have e3 : x.2 * ((room - sumL q) * W) = (room - sumL q) * x.2 * W := by
        rw [← Int.mul_assoc, Int.mul_comm x.2]
      rw [e1, e2] at h3
      rw [e3] at h4
      exact Int.le_of_mul_le_mul_right (Int.le_trans h3 h4) hw
    · rw [if_pos rfl, hf]
      exact ov
  | false =>
    have ov0 : (∀ x ∈ ps, x.1 ≠ none) ∧ sumL (ps.filter p) < room := by simpa using h.over
    have key : room * sumW q ≤ sumL q * W := sum_mul_ge lim (fun x => x.2) W room q fun x hx => bnd_flo (hqm x hx).2.2
    have ov : sumL f < room - sumL q := by
      have := ov0.2
      unfold sumL at this ⊢
      omega
    have w2 : 0 < W - sumW q := by
      rcases nf with h0 | h0
      · exfalso
        rw [h0] at ov eW2
        have z1 : sumL [] = 0 := rfl
        have z2 : sumW [] = 0 := rfl
        have : sumW q = W := by omega
        rw [this] at key
        have := Int.le_of_mul_le_mul_right key hw
        omega
      · omega
    have r2 : 0 ≤ room - sumL q := by
      unfold sumL at ov ⊢
      omega
    refine ⟨pos2, by rw [eW2, hf], eR2, w2, r2, ?_, kn, ?_⟩
    · intro x hx hx0 hp
      have h1 : room * x.2 ≤ lim x * W := by
        cases e : p x with
        | false => exact bnd_flo (h.stay x hx hx0 e)
        | true =>
          rw [e] at hp
          have h1 : bnd false x room W = true := by
            cases e3 : bnd false x room W with
            | true => rfl
            | false => rw [e3] at hp; cases hp
          exact bnd_flo h1
      refine bnd_flo_of ?_
      have h2 : (room - sumL q) * W ≤ room * (W - sumW q) := by
        rw [Int.mul_sub, Int.sub_mul]
        omega
      have h3 : room * x.2 * (W - sumW q) ≤ lim x * W * (W - sumW q) := Int.mul_le_mul_of_nonneg_right h1 (by omega)
      have h4 : x.2 * ((room - sumL q) * W) ≤ x.2 * (room * (W - sumW q)) := Int.mul_le_mul_of_nonneg_left h2 (by omega)
      have e1 : lim x * W * (W - sumW q) = lim x * (W - sumW q) * W := by
        rw [Int.mul_assoc, Int.mul_comm W, ← Int.mul_assoc]
      have e2 : room * x.2 * (W - sumW q) = x.2 * (room * (W - sumW q)) := by
        rw [Int.mul_comm room x.2, Int.mul_assoc]
      have e3 : x.2 * ((room - sumL q) * W) = (room - sumL q) * x.2 * W := by
        rw [← Int.mul_assoc, Int.mul_comm x.2]
      rw [e1, e2] at h3
      rw [e3] at h4
      exact Int.le_of_mul_le_mul_right (Int.le_trans h4 h3) hw
    · rw [if_neg (by decide), hf]
      exact ⟨ov0.1, ov⟩
end
/-- who gets level times weight -/
def free (cap : Bool) (room W : Int) (x : Pr) : Bool := decide (0 < x.2) && !bnd cap x room W
structure Fix (cap : Bool) (total : Int) (ps : List Pr) (room W : Int) : Prop where
  eW : W = sumW (ps.filter (free cap room W))
  eR : room = total - sumL (ps.filter fun x => !free cap room W x)
  w0 : 0 < W
  r0 : 0 ≤ room
  known : ∀ x ∈ ps, free cap room W x = false → x.1 ≠ none
theorem Lev.same {cap : Bool} {total : Int} {ps : List Pr} {p : Pr → Bool} {room W : Int} (h : Lev cap total ps p room W) (hn : ∀ x ∈ ps, p x = true → bnd cap x room W = false) : ∀ x ∈ ps, p x = free cap room W x := fun x hx => by
  unfold free
  cases e : p x with
  | true => rw [hn x hx e, decide_eq_true (h.pos x hx e)]; rfl
  | false =>
    by_cases h0 : 0 < x.2
    · rw [h.stay x hx h0 e, decide_eq_true h0]
      rfl
    · rw [decide_eq_false h0]
      rfl
theorem Lev.fix {cap : Bool} {total : Int} {ps : List Pr} {p : Pr → Bool} {room W : Int} (h : Lev cap total ps p room W) (hn : ∀ x ∈ ps, p x = true → bnd cap x room W = false) : Fix cap total ps room W := by
  have hs := h.same hn
  have e1 : ps.filter p = ps.filter (free cap room W) := List.filter_congr hs
  have e2 : (ps.filter fun x => !p x) = ps.filter fun x => !free cap room W x := List.filter_congr fun x hx => by rw [hs x hx]
  exact ⟨by rw [← e1]; exact h.eW, by rw [← e2]; exact h.eR, h.w0, h.r0, fun x hx hp => h.known x hx (by rw [hs x hx]; exact hp)⟩
/-- the parts -/
def runs (room W : Int) : Int → List Int → List Int
  | _, [] => []
  | cum, w :: r => (room * (cum + w) / W - room * cum / W) :: runs room W (cum + w) r
theorem runs_snoc (room W : Int) : ∀ (l : List Int) (cum w : Int), runs room W cum (l ++ [w]) = runs room W cum l ++ [room * (cum + l.sum + w) / W - room * (cum + l.sum) / W]
  | [], cum, w => by simp [runs]
  | v :: r, cum, w => by
    show _ :: runs room W (cum + v) (r ++ [w]) = _ :: (runs room W (cum + v) r ++ _)
    rw [runs_snoc room W r (cum + v) w, List.sum_cons, Int.add_assoc cum v]
theorem runs_len (room W : Int) : ∀ (l : List Int) (cum : Int), (runs room W cum l).length = l.length
  | [], _ => rfl
  | v :: r, cum => by
    show (runs room W (cum + v) r).length + 1 = _
    rw [runs_len room W r]
    rfl
def runP (room W : Int) (f : Pr → Bool) : Int → List Pr → List Int
  | _, [] => []
  | cum, x :: r => if f x = true then (room * (cum + x.2) / W - room * cum / W) :: runP room W f (cum + x.2) r else lim x :: runP room W f cum r
def setAll {α : Type} : List α → List (Nat × α) → List α
  | l, [] => l
  | l, (i, v) :: r => setAll (l.set i v) r
theorem setAll_snoc {α : Type} : ∀ (q : List (Nat × α)) (l : List α) (i : Nat) (v : α), setAll l (q ++ [(i, v)]) = (setAll l q).set i v
  | [], _, _, _ => rfl
  | (j, u) :: r, l, i, v => setAll_snoc r (l.set j u) i v
theorem setAll_len {α : Type} : ∀ (q : List (Nat × α)) (l : List α), (setAll l q).length = l.length
  | [], _ => rfl
  | (j, u) :: r, l => by
    show (setAll (l.set j u) r).length = _
    rw [setAll_len r]
    simp
theorem setAll_run {α : Type} (room W : Int) (f : Pr → Bool) (e : Int → α) (o : Pr → α) : ∀ (ps : List Pr) (pre : List α) (cum : Int), (∀ x ∈ ps, f x = false → o x = e (lim x)) →
    setAll (pre ++ ps.map o) ((((ps.zipIdx pre.length).filter fun x => f x.1).map fun x => x.2).zip ((runs room W cum (((ps.zipIdx pre.length).filter fun x => f x.1).map fun x => x.1.2)).map e)) = pre ++ (runP room W f cum ps).map e
  | [], pre, cum, _ => rfl
  | x :: r, pre, cum, h => by
    have hr : ∀ y ∈ r, f y = false → o y = e (lim y) := fun y hy => h y (List.mem_cons_of_mem _ hy)
    rw [List.zipIdx_cons]
    cases hf : f x with
    | true =>
      have ih := setAll_run room W f e o r (pre ++ [e (room * (cum + x.2) / W - room * cum / W)]) (cum + x.2) hr
      rw [List.length_append, List.length_singleton] at ih
      rw [List.filter_cons_of_pos (by exact hf)]
      show setAll ((pre ++ (o x :: r.map o)).set pre.length _) _ = _
      have es : ∀ v : α, (pre ++ (o x :: r.map o)).set pre.length v = pre ++ (v :: r.map o) := fun v => by simp
      rw [es]
      unfold runP
      rw [if_pos hf, List.map_cons]
      rw [List.append_assoc, List.append_assoc] at ih
      exact ih
    | false =>
      have ih := setAll_run room W f e o r (pre ++ [e (lim x)]) cum hr
      rw [List.length_append, List.length_singleton] at ih
      rw [List.filter_cons_of_neg (by rw [hf]; decide)]
      unfold runP
      rw [if_neg (by rw [hf]; decide), List.map_cons, List.map_cons, h x List.mem_cons_self hf]
      rw [List.append_assoc, List.append_assoc] at ih
      exact ih

/-! ### one level and no other -/
def val (cap : Bool) (top bot : Int) (x : Pr) : Int := if free cap top bot x = true then top * x.2 else lim x * bot
structure Val (cap : Bool) (total : Int) (ls : List Pr) (top bot : Int) : Prop where
  b0 : 0 < bot
  t0 : 0 ≤ top
  sum : (ls.map (val cap top bot)).sum = total * bot
  fr : ∃ x ∈ ls, free cap top bot x = true
theorem free_iff {cap : Bool} {top bot : Int} {x : Pr} : free cap top bot x = true ↔ 0 < x.2 ∧ bnd cap x top bot = false := by
  unfold free
  rw [Bool.and_eq_true, decide_eq_true_eq, Bool.not_eq_true']
theorem sum_val (cap : Bool) (top bot : Int) : ∀ ls : List Pr, (ls.map (val cap top bot)).sum = top * sumW (ls.filter (free cap top bot)) + sumL (ls.filter fun x => !free cap top bot x) * bot
  | [] => by simp [sumW, sumL]
  | x :: r => by
    rw [List.map_cons, List.sum_cons, sum_val cap top bot r, List.filter_cons, List.filter_cons]
    unfold val sumW sumL
    cases h : free cap top bot x with
    | true =>
      simp only [if_true, Bool.not_true, Bool.false_eq_true, if_false, List.map_cons, List.sum_cons]
      rw [Int.mul_add]
      omega
    | false =>
      simp only [if_true, Bool.not_false, Bool.false_eq_true, if_false, List.map_cons, List.sum_cons]
      rw [Int.add_mul]
      omega
theorem Fix.val {cap : Bool} {total : Int} {ls : List Pr} {room W : Int} (h : Fix cap total ls room W) : Val cap total ls room W := by
  refine ⟨h.w0, h.r0, ?_, ?_⟩
  · rw [sum_val, ← h.eW]
    have e := h.eR
    generalize sumL (ls.filter fun x => !free cap room W x) = z at e
    rw [e, Int.sub_mul]
    omega
  · refine Classical.byContradiction fun hn => ?_
    have e := h.eW
    rw [none_free hn] at e
    have := h.w0
    have z : sumW [] = 0 := rfl
    omega
theorem sum_le_lt (f g : Pr → Int) : ∀ ls : List Pr, (∀ x ∈ ls, f x ≤ g x) → (ls.map f).sum ≤ (ls.map g).sum
  | [], _ => Int.le_refl _
  | x :: r, h => by
    have h1 := h x List.mem_cons_self
    have h2 := sum_le_lt f g r fun y hy => h y (List.mem_cons_of_mem _ hy)
    simp only [List.map_cons, List.sum_cons]
    omega
theorem sum_lt (f g : Pr → Int) {ls : List Pr} (h : ∀ x ∈ ls, f x ≤ g x) (hx : ∃ x ∈ ls, f x < g x) : (ls.map f).sum < (ls.map g).sum := by
  obtain ⟨x, hx, hlt⟩ := hx
  obtain ⟨s, t, e⟩ := List.append_of_mem hx
  rw [e] at h ⊢
  have h1 := sum_le_lt f g s fun y hy => h y (List.mem_append_left _ hy)
  have h2 := sum_le_lt f g t fun y hy => h y (List.mem_append_right _ (List.mem_cons_of_mem _ hy))
  rw [List.map_append, List.map_append, List.sum_append, List.sum_append, List.map_cons, List.map_cons, List.sum_cons, List.sum_cons]
  omega
theorem sum_mulr (f : Pr → Int) (k : Int) : ∀ ls : List Pr, (ls.map fun x => f x * k).sum = (ls.map f).sum * k
  | [] => by simp
  | x :: r => by
    rw [List.map_cons, List.map_cons, List.sum_cons, List.sum_cons, sum_mulr f k r, Int.add_mul]
theorem not_bnd_cap {x : Pr} {top bot : Int} (h : bnd true x top bot = false) (hk : x.1 ≠ none) : top * x.2 < lim x * bot := by
  refine Int.not_le.mp fun z => ?_
  rw [bnd_cap_of hk z] at h
  cases h
theorem not_bnd_flo {x : Pr} {top bot : Int} (h : bnd false x top bot = false) : lim x * bot < top * x.2 := by
  refine Int.not_le.mp fun z => ?_
  rw [bnd_flo_of z] at h
  cases h
theorem not_free_bnd {cap : Bool} {top bot : Int} {x : Pr} (hx : 0 < x.2) (h : free cap top bot x = false) : bnd cap x top bot = true := by
  cases e : bnd cap x top bot with
  | true => rfl
  | false => rw [free_iff.mpr ⟨hx, e⟩] at h; cases h
theorem Val.not_lt {cap : Bool} {total : Int} {ls : List Pr} {r1 w1 r2 w2 : Int} (h1 : Val cap total ls r1 w1) (h2 : Val cap total ls r2 w2) : ¬ r1 * w2 < r2 * w1 := by
  intro hlt
  have p1 := h1.b0
  have p2 := h2.b0
  have key : ∀ x ∈ ls, val cap r1 w1 x * w2 ≤ val cap r2 w2 x * w1 ∧ ((if cap = true then free cap r1 w1 x = true else free cap r2 w2 x = true) → val cap r1 w1 x * w2 < val cap r2 w2 x * w1) := fun x _ => by
    have c1 : r1 * x.2 * w2 = r1 * w2 * x.2 := by rw [Int.mul_assoc, Int.mul_comm x.2, ← Int.mul_assoc]
    have c2 : r2 * x.2 * w1 = r2 * w1 * x.2 := by rw [Int.mul_assoc, Int.mul_comm x.2, ← Int.mul_assoc]
    have c3 : lim x * w1 * w2 = lim x * w2 * w1 := by rw [Int.mul_assoc, Int.mul_comm w1, ← Int.mul_assoc]
    unfold val
    cases e1 : free cap r1 w1 x with
    | true =>
      obtain ⟨x0, b1⟩ := free_iff.mp e1
      have g1 : r1 * w2 * x.2 < r2 * w1 * x.2 := Int.mul_lt_mul_of_pos_right hlt x0
      cases e2 : free cap r2 w2 x with
      | true =>
        simp only [if_true]
        rw [c1, c2]
        exact ⟨by omega, fun _ => g1⟩
      | false =>
        have b2 := not_free_bnd x0 e2
        simp only [if_true, Bool.false_eq_true, if_false]
        cases cap with
        | true =>
          have hk := bnd_cap b2
          have g3 := Int.mul_lt_mul_of_pos_right (not_bnd_cap b1 hk.1) p2
          rw [c3] at g3
          exact ⟨by omega, fun _ => g3⟩
        | false =>
          have g3 := Int.mul_le_mul_of_nonneg_right (bnd_flo b2) (Int.le_of_lt p1)
          rw [c2] at g3
          rw [c1]
          exact ⟨by omega, fun z => by simp at z⟩
    | false =>
      cases e2 : free cap r2 w2 x with
      | true =>
        obtain ⟨x0, b2⟩ := free_iff.mp e2
        have g1 : r1 * w2 * x.2 < r2 * w1 * x.2 := Int.mul_lt_mul_of_pos_right hlt x0
        have b1 := not_free_bnd x0 e1
        simp only [if_true, Bool.false_eq_true, if_false]
        cases cap with
        | true =>
          have g3 := Int.mul_le_mul_of_nonneg_right (bnd_cap b1).2 (Int.le_of_lt p2)
          rw [c1] at g3
          rw [c2]
          exact ⟨by omega, fun z => by simp at z⟩
        | false =>
          have g3 := Int.mul_lt_mul_of_pos_right (not_bnd_flo b2) p1
          rw [← c3] at g3
          exact ⟨by omega, fun _ => g3⟩
      | false =>
        simp only [Bool.false_eq_true, if_false]
        rw [c3]
        exact ⟨Int.le_refl _, fun z => by cases cap <;> simp at z⟩
  have hex : ∃ x ∈ ls, val cap r1 w1 x * w2 < val cap r2 w2 x * w1 := by
    cases cap with
    | true =>
      obtain ⟨x, hx, e⟩ := h1.fr
      exact ⟨x, hx, (key x hx).2 (by simpa using e)⟩
    | false =>
      obtain ⟨x, hx, e⟩ := h2.fr
      exact ⟨x, hx, (key x hx).2 (by simpa using e)⟩
  have hs := sum_lt (fun x => val cap r1 w1 x * w2) (fun x => val cap r2 w2 x * w1) (fun x hx => (key x hx).1) hex
  rw [sum_mulr, sum_mulr, h1.sum, h2.sum, Int.mul_assoc, Int.mul_assoc, Int.mul_comm w1] at hs
  omega
theorem Val.unique {cap : Bool} {total : Int} {ls : List Pr} {r1 w1 r2 w2 : Int} (h1 : Val cap total ls r1 w1) (h2 : Val cap total ls r2 w2) : r1 * w2 = r2 * w1 := by
  have a := h1.not_lt h2
  have b := h2.not_lt h1
  omega
theorem bnd_same {cap : Bool} {r1 w1 r2 w2 : Int} (p1 : 0 < w1) (p2 : 0 < w2) (h : r1 * w2 = r2 * w1) (x : Pr) : bnd cap x r1 w1 = bnd cap x r2 w2 := by
  have c1 : r1 * x.2 * w2 = r1 * w2 * x.2 := by rw [Int.mul_assoc, Int.mul_comm x.2, ← Int.mul_assoc]
  have c2 : r2 * x.2 * w1 = r2 * w1 * x.2 := by rw [Int.mul_assoc, Int.mul_comm x.2, ← Int.mul_assoc]
  have c3 : lim x * w1 * w2 = lim x * w2 * w1 := by rw [Int.mul_assoc, Int.mul_comm w1, ← Int.mul_assoc]
  have k1 : lim x * w1 ≤ r1 * x.2 ↔ lim x * w2 ≤ r2 * x.2 := by
    constructor
    · intro a
      have := Int.mul_le_mul_of_nonneg_right a (Int.le_of_lt p2)
      rw [c1, h, ← c2, c3] at this
      exact Int.le_of_mul_le_mul_right this p1
    · intro a
      have := Int.mul_le_mul_of_nonneg_right a (Int.le_of_lt p1)
      rw [c2, ← h, ← c1, ← c3] at this
      exact Int.le_of_mul_le_mul_right this p2
  have k2 : r1 * x.2 ≤ lim x * w1 ↔ r2 * x.2 ≤ lim x * w2 := by
    constructor
    · intro a
      have := Int.mul_le_mul_of_nonneg_right a (Int.le_of_lt p2)
      rw [c1, h, ← c2, c3] at this
      exact Int.le_of_mul_le_mul_right this p1
    · intro a
      have := Int.mul_le_mul_of_nonneg_right a (Int.le_of_lt p1)
      rw [c2, ← h, ← c1, ← c3] at this
      exact Int.le_of_mul_le_mul_right this p2
  obtain ⟨c, w⟩ := x
  cases cap with
  | true =>
    cases c with
    | none => rfl
    | some c => exact decide_eq_decide.mpr k1
  | false => exact decide_eq_decide.mpr k2
theorem free_same {cap : Bool} {r1 w1 r2 w2 : Int} (p1 : 0 < w1) (p2 : 0 < w2) (h : r1 * w2 = r2 * w1) (x : Pr) : free cap r1 w1 x = free cap r2 w2 x := by
  unfold free
  rw [bnd_same p1 p2 h]
def low (room W : Int) : Int × Int := (((room.toNat / Nat.gcd room.toNat W.toNat : Nat) : Int), ((W.toNat / Nat.gcd room.toNat W.toNat : Nat) : Int))
theorem low_nat {r w t b : Nat} (h : r * b = t * w) (hg : Nat.gcd t b = 1) (hb : 0 < b) (hw : 0 < w) : r / Nat.gcd r w = t ∧ w / Nat.gcd r w = b := by
  have hd : b ∣ w := by
    have h1 : b ∣ t * w := ⟨r, by rw [← h, Nat.mul_comm]⟩
    exact Nat.Coprime.dvd_of_dvd_mul_left (Nat.Coprime.symm hg) h1
  obtain ⟨k, rfl⟩ := hd
  have hk : 0 < k := Nat.pos_of_mul_pos_left hw
  have hr : r = t * k := by
    have : r * b = t * k * b := by rw [h, Nat.mul_comm b k, Nat.mul_assoc]
    exact Nat.eq_of_mul_eq_mul_right hb this
  subst hr
  rw [Nat.gcd_mul_right, hg, Nat.one_mul]
  exact ⟨Nat.mul_div_cancel _ hk, Nat.mul_div_cancel _ hk⟩
theorem low_of {room W : Int} {t b : Nat} (h : room * (b : Int) = (t : Int) * W) (hg : Nat.gcd t b = 1) (hb : 0 < b) (hw : 0 < W) (hr : 0 ≤ room) : low room W = ((t : Int), (b : Int)) := by
  have e1 : (room.toNat : Int) = room := Int.toNat_of_nonneg hr
  have e2 : (W.toNat : Int) = W := Int.toNat_of_nonneg (Int.le_of_lt hw)
  have h2 : room.toNat * b = t * W.toNat := by
    have : ((room.toNat * b : Nat) : Int) = ((t * W.toNat : Nat) : Int) := by
      rw [Int.natCast_mul, Int.natCast_mul, e1, e2]
      exact h
    exact Int.ofNat.inj this
  obtain ⟨a1, a2⟩ := low_nat h2 hg hb (by omega)
  unfold low
  rw [a1, a2]
theorem low_pos {room W : Int} (hw : 0 < W) (hr : 0 ≤ room) : ∃ t b : Nat, low room W = ((t : Int), (b : Int)) ∧ Nat.gcd t b = 1 ∧ 0 < b ∧ room * (b : Int) = (t : Int) * W := by
  have e1 : (room.toNat : Int) = room := Int.toNat_of_nonneg hr
  have e2 : (W.toNat : Int) = W := Int.toNat_of_nonneg (Int.le_of_lt hw)
  have g0 : 0 < Nat.gcd room.toNat W.toNat := Nat.gcd_pos_of_pos_right _ (by omega)
  refine ⟨_, _, rfl, ?_, ?_, ?_⟩
  · exact Nat.gcd_div_gcd_div_gcd_of_pos_right (by omega)
  · exact Nat.div_pos (Nat.le_of_dvd (by omega) (Nat.gcd_dvd_right _ _)) g0
  · obtain ⟨k, hk⟩ := Nat.gcd_dvd_left room.toNat W.toNat
    obtain ⟨j, hj⟩ := Nat.gcd_dvd_right room.toNat W.toNat
    have d1 : room.toNat / Nat.gcd room.toNat W.toNat = k := by
      conv => lhs; lhs; rw [hk]
      exact Nat.mul_div_cancel_left _ g0
    have d2 : W.toNat / Nat.gcd room.toNat W.toNat = j := by
      conv => lhs; lhs; rw [hj]
      exact Nat.mul_div_cancel_left _ g0
    rw [d1, d2]
    have : room.toNat * j = k * W.toNat := by
      conv => lhs; rw [hk]
      conv => rhs; rw [hj]
      rw [Nat.mul_comm (Nat.gcd _ _) k, Nat.mul_assoc]
    have h3 : ((room.toNat * j : Nat) : Int) = ((k * W.toNat : Nat) : Int) := by rw [this]
    rw [Int.natCast_mul, Int.natCast_mul, e1, e2] at h3
    exact h3
/-- the parts, where all comes out whole -/
theorem runP_exact {room W top bot : Int} (hw : 0 < W) (h : room * bot = top * W) (f : Pr → Bool) : ∀ (ls : List Pr) (u : Int), (∀ x ∈ ls, ∃ k, x.2 = k * bot) → 0 < bot → runP room W f (u * bot) ls = ls.map fun x => if f x = true then top * (x.2 / bot) else lim x
  | [], _, _, _ => rfl
  | x :: r, u, hd, hb => by
    obtain ⟨k, hk⟩ := hd x List.mem_cons_self
    have hr : ∀ y ∈ r, ∃ k, y.2 = k * bot := fun y hy => hd y (List.mem_cons_of_mem _ hy)
    have q : ∀ v : Int, room * (v * bot) / W = top * v := fun v => by
      rw [Int.mul_comm v, ← Int.mul_assoc, h, Int.mul_assoc, Int.mul_comm W, ← Int.mul_assoc]
      exact Int.mul_ediv_cancel _ (by omega)
    have hx : x.2 / bot = k := by rw [hk]; exact Int.mul_ediv_cancel _ (by omega)
    unfold runP
    rw [List.map_cons]
    cases hf : f x with
    | true =>
      rw [if_pos rfl, if_pos rfl, hx, hk, ← Int.add_mul, q, q, runP_exact hw h f r (u + k) hr hb, Int.mul_add]
      congr 1
      omega
    | false =>
      rw [if_neg (by decide), if_neg (by decide), runP_exact hw h f r u hr hb]
theorem Val.over {total : Int} {ls : List Pr} {top bot : Int} (h : Val true total ls top bot) (hk : ∀ x ∈ ls, x.1 ≠ none) (hz : ∀ x ∈ ls, x.2 ≤ 0 → lim x * bot = val true top bot x) : total < sumL ls := by
  refine Int.not_le.mp fun z => ?_
  have b0 := h.b0
  have s := sum_lt (val true top bot) (fun x => lim x * bot) (ls := ls) (fun x hx => ?_) ?_
  · rw [h.sum, sum_mulr] at s
    have := Int.mul_le_mul_of_nonneg_right z (Int.le_of_lt b0)
    unfold sumL at this
    omega
  · by_cases hx0 : x.2 ≤ 0
    · rw [hz x hx hx0]
      exact Int.le_refl _
    · unfold val
      cases e : free true top bot x with
      | true => exact Int.le_of_lt (not_bnd_cap (free_iff.mp e).2 (hk x hx))
      | false => exact Int.le_refl _
  · obtain ⟨x, hx, e⟩ := h.fr
    refine ⟨x, hx, ?_⟩
    show val true top bot x < lim x * bot
    unfold val
    rw [if_pos e]
    exact not_bnd_cap (free_iff.mp e).2 (hk x hx)
theorem Val.under {total : Int} {ls : List Pr} {top bot : Int} (h : Val false total ls top bot) : sumL ls < total := by
  refine Int.not_le.mp fun z => ?_
  have b0 := h.b0
  have s := sum_lt (fun x => lim x * bot) (val false top bot) (ls := ls) (fun x hx => ?_) ?_
  · rw [h.sum, sum_mulr] at s
    have := Int.mul_le_mul_of_nonneg_right z (Int.le_of_lt b0)
    unfold sumL at this
    omega
  · show lim x * bot ≤ val false top bot x
    unfold val
    cases e : free false top bot x with
    | true => exact Int.le_of_lt (not_bnd_flo (free_iff.mp e).2)
    | false => exact Int.le_refl _
  · obtain ⟨x, hx, e⟩ := h.fr
    refine ⟨x, hx, ?_⟩
    show lim x * bot < val false top bot x
    unfold val
    rw [if_pos e]
    exact not_bnd_flo (free_iff.mp e).2

/-! ### comprehensions whose turns tell one value or none -/
theorem big {n : Nat} (h : n ≤ 16000000) : n < sizeLine := Nat.lt_of_le_of_lt h (by decide)
theorem bigl {n : Nat} (h : n ≤ 16000000) : n ≤ sizeLine := Nat.le_of_lt (big h)
theorem fm_succ {α β : Type} {as : List α} {F : α → Option β} {i : Nat} {a : α} (h : as[i]? = some a) : (as.take (i + 1)).filterMap F = (as.take i).filterMap F ++ (F a).toList := by
  rw [List.take_add_one, h, List.filterMap_append]
  cases e : F a <;> simp [List.filterMap_cons, e]
theorem fm_len {α β : Type} (F : α → Option β) (as : List α) (i : Nat) : ((as.take i).filterMap F).length ≤ as.length := by
  refine Nat.le_trans (List.length_filterMap_le _ _) ?_
  rw [List.length_take]
  omega
theorem same_mut {H1 H : Hp} {D : Addr} {o : HO} (n : H1 D = none) (s : Same H1 H) : Same H1 (upd H D o) := fun b x e => by
  rw [upd_ne (ne_of_none e n)]
  exact s _ _ e
section
variable {K : PySem.W.Frag} {α β γ : Type}
theorem lcF_list {a : Addr} {as : List α} (e : α → V) {j : Nat} {tt : TT} {te : TE} {vs : List Nat} {σ : L2.St} {H1 : Hp} {D : Addr} {Qd : Hp → Prop} (F : α → Option β) (e2 : β → V) (hS : SqL K H1 a (as.map e)) (nD : H1 D = none) (hz : as.length ≤ 40000)
    (hs : ∀ (i : Nat) x H (A : V → Hp → Prop) (B : Hp → Prop), as[i]? = some x → Same H1 H → (∀ z H', F x = some z → Same H H' → A (e2 z) H') → (∀ H', F x = none → Same H H' → B H') →
      wipe ((wipe σ vs).set j (some (e x))) vs = wipe σ vs ∧ tt ((wipe σ vs).set j (some (e x))) H fun b H3 => if b = true then te ((wipe σ vs).set j (some (e x))) H3 A else B H3)
    (hd : ∀ H, Same H1 H → H D = some (.lst ((as.filterMap F).map e2)) → Qd H) :
    ∃ W : Nat → Nat → Hp → Prop, (∃ m, W 0 m (upd H1 D (.lst []))) ∧ ∀ i m H, W i m H →
      ((Itl K a).stop i H ∧ Qd H) ∨ ((Itl K a).go i H ∧ ∃ Nx : Hp → Prop, (∀ H', Nx H' → ∃ m', m' < m ∧ W (i + 1) m' H') ∧ ∀ x H', (Itl K a).yld i H x H' → gName j x (wipe σ vs) H' fun σ2 H2 => wipe σ2 vs = wipe σ vs ∧ tt σ2 H2 fun b H3 =>
        if b = true then te σ2 H3 fun y H4 => ∃ acc, H4 D = some (.lst acc) ∧ acc.length < sizeLine ∧ Nx (upd H4 D (.lst (acc ++ [y]))) else Nx H3) := by
  refine lc_it (walk_list (xs := as.map e)) (fun i H => H D = some (.lst (((as.take i).filterMap F).map e2)) ∧ Same H1 H) ⟨upd_same, same_upd nD⟩ (fun i H _ h => h.2.seq hS) ?_ ?_
  · rintro i y H H' hi ⟨eD, sm⟩ ⟨rfl, hy⟩
    rw [List.getElem?_map] at hy
    cases ex : as[i]? with
    | none => rw [ex] at hy; cases hy
    | some x =>
      rw [ex] at hy
      cases hy
      refine hs i x H' _ _ ex sm (fun z H4 hz4 s4 => ⟨_, s4 _ _ eD, ?_, ?_, same_mut nD (sm.trans s4)⟩) (fun H3 h3 s3 => ⟨?_, sm.trans s3⟩)
      · rw [List.length_map]
        exact big (Nat.le_trans (fm_len F as i) (by omega))
      · rw [upd_same, fm_succ ex, hz4, List.map_append]
        rfl
      · rw [fm_succ ex, h3]
        simpa using s3 _ _ eD
  · rintro H ⟨eD, sm⟩
    rw [List.length_map, List.take_length] at eD
    exact hd H sm eD
theorem lcF_zip {a b : Addr} {as : List α} {bs : List β} (e : α → V) (e' : β → V) {j1 j2 : Nat} {tt : TT} {te : TE} {vs : List Nat} {σ : L2.St} {H1 : Hp} {D : Addr} {Qd : Hp → Prop} (F : α → β → Option γ) (e2 : γ → V) (hS : SqL K H1 a (as.map e)) (hS2 : SqL K H1 b (bs.map e')) (nD : H1 D = none) (hz : as.length ≤ 40000)
    (hs : ∀ (i : Nat) x y H (A : V → Hp → Prop) (B : Hp → Prop), as[i]? = some x → bs[i]? = some y → Same H1 H → (∀ z H', F x y = some z → Same H H' → A (e2 z) H') → (∀ H', F x y = none → Same H H' → B H') →
      wipe (((wipe σ vs).set j1 (some (e x))).set j2 (some (e' y))) vs = wipe σ vs ∧ tt (((wipe σ vs).set j1 (some (e x))).set j2 (some (e' y))) H fun b H3 => if b = true then te (((wipe σ vs).set j1 (some (e x))).set j2 (some (e' y))) H3 A else B H3)
    (hd : ∀ H, Same H1 H → H D = some (.lst (((as.zip bs).filterMap fun p => F p.1 p.2).map e2)) → Qd H) :
    ∃ W : Nat → Nat → Hp → Prop, (∃ m, W 0 m (upd H1 D (.lst []))) ∧ ∀ i m H, W i m H →
      ((Itz K a b).stop i H ∧ Qd H) ∨ ((Itz K a b).go i H ∧ ∃ Nx : Hp → Prop, (∀ H', Nx H' → ∃ m', m' < m ∧ W (i + 1) m' H') ∧ ∀ x H', (Itz K a b).yld i H x H' → gTup K 2 (gCons (gName j1) (gCons (gName j2) gNil)) x (wipe σ vs) H' fun σ2 H2 => wipe σ2 vs = wipe σ vs ∧ tt σ2 H2 fun b H3 =>
        if b = true then te σ2 H3 fun y H4 => ∃ acc, H4 D = some (.lst acc) ∧ acc.length < sizeLine ∧ Nx (upd H4 D (.lst (acc ++ [y]))) else Nx H3) := by
  have hlen : (as.zip bs).length = min (as.map e).length (bs.map e').length := by rw [List.length_zip, List.length_map, List.length_map]
  refine lc_it (L2.walk_zip (xs := as.map e) (ys := bs.map e') hlen) (fun i H => H D = some (.lst ((((as.zip bs).take i).filterMap fun p => F p.1 p.2).map e2)) ∧ Same H1 H) ⟨upd_same, same_upd nD⟩ (fun i H _ h => ⟨h.2.seq hS, h.2.seq hS2⟩) ?_ ?_
  · rintro i y H H' hi ⟨eD, sm⟩ ⟨T, x, z, rfl, nT, rfl, hx, hy⟩
    rw [List.length_zip] at hi
    have l1 : i < as.length := by omega
    have l2 : i < bs.length := by omega
    have e1 : as[i]? = some as[i] := List.getElem?_eq_getElem l1
    have e3 : bs[i]? = some bs[i] := List.getElem?_eq_getElem l2
    replace hx : (as.map e)[i]? = some x := hx
    replace hy : (bs.map e')[i]? = some z := hy
    rw [List.getElem?_map, e1] at hx
    rw [List.getElem?_map, e3] at hy
    cases hx
    cases hy
    have ez : (as.zip bs)[i]? = some (as[i], bs[i]) := by
      rw [List.getElem?_zip_eq_some]
      exact ⟨e1, e3⟩
    have sT := same_upd (o := .tup [e as[i], e' bs[i]]) nT
    refine ⟨T, _, rfl, .of upd_same, rfl, _, _, rfl, _, _, rfl, rfl, ?_⟩
    refine hs i as[i] bs[i] _ _ _ e1 e3 (sm.trans sT) (fun z H4 hz4 s4 => ⟨_, s4 _ _ (sT _ _ eD), ?_, ?_, same_mut nD ((sm.trans sT).trans s4)⟩) (fun H3 h3 s3 => ⟨?_, (sm.trans sT).trans s3⟩)
    · rw [List.length_map]
      refine big (Nat.le_trans (fm_len _ _ i) ?_)
      rw [List.length_zip]
      omega
    · rw [upd_same, fm_succ ez, hz4, List.map_append]
      rfl
    · rw [fm_succ ez, h3]
      simpa using s3 _ _ (sT _ _ eD)
  · rintro H ⟨eD, sm⟩
    rw [List.take_length] at eD
    exact hd H sm eD
theorem lcF_enum {a : Addr} {as : List α} (e : α → V) {j1 j2 : Nat} {tt : TT} {te : TE} {vs : List Nat} {σ : L2.St} {H1 : Hp} {D : Addr} {Qd : Hp → Prop} (F : α × Nat → Option γ) (e2 : γ → V) (hS : SqL K H1 a (as.map e)) (nD : H1 D = none) (hz : as.length ≤ 40000)
    (hs : ∀ (i : Nat) x H (A : V → Hp → Prop) (B : Hp → Prop), as[i]? = some x → Same H1 H → (∀ z H', F (x, i) = some z → Same H H' → A (e2 z) H') → (∀ H', F (x, i) = none → Same H H' → B H') →
      wipe (((wipe σ vs).set j1 (some (.int (i : Nat)))).set j2 (some (e x))) vs = wipe σ vs ∧ tt (((wipe σ vs).set j1 (some (.int (i : Nat)))).set j2 (some (e x))) H fun b H3 => if b = true then te (((wipe σ vs).set j1 (some (.int (i : Nat)))).set j2 (some (e x))) H3 A else B H3)
    (hd : ∀ H, Same H1 H → H D = some (.lst ((as.zipIdx.filterMap F).map e2)) → Qd H) :
    ∃ W : Nat → Nat → Hp → Prop, (∃ m, W 0 m (upd H1 D (.lst []))) ∧ ∀ i m H, W i m H →
      ((Ite K a).stop i H ∧ Qd H) ∨ ((Ite K a).go i H ∧ ∃ Nx : Hp → Prop, (∀ H', Nx H' → ∃ m', m' < m ∧ W (i + 1) m' H') ∧ ∀ x H', (Ite K a).yld i H x H' → gTup K 2 (gCons (gName j1) (gCons (gName j2) gNil)) x (wipe σ vs) H' fun σ2 H2 => wipe σ2 vs = wipe σ vs ∧ tt σ2 H2 fun b H3 =>
        if b = true then te σ2 H3 fun y H4 => ∃ acc, H4 D = some (.lst acc) ∧ acc.length < sizeLine ∧ Nx (upd H4 D (.lst (acc ++ [y]))) else Nx H3) := by
  refine lc_it (walk_enum (xs := as.map e)) (fun i H => H D = some (.lst (((as.zipIdx.take i).filterMap F).map e2)) ∧ Same H1 H) ⟨upd_same, same_upd nD⟩ (fun i H _ h => h.2.seq hS) ?_ ?_
  · rintro i y H H' hi ⟨eD, sm⟩ ⟨T, x, z, rfl, nT, rfl, hx, hy⟩
    rw [List.length_map] at hi
    have e1 : as[i]? = some as[i] := List.getElem?_eq_getElem hi
    replace hy : (as.map e)[i]? = some z := hy
    rw [List.getElem?_map, e1] at hy
    cases hx
    cases hy
    have ez : as.zipIdx[i]? = some (as[i], i) := by
      rw [List.getElem?_zipIdx, e1]
      simp
    have sT := same_upd (o := .tup [.int (i : Nat), e as[i]]) nT
    refine ⟨T, _, rfl, .of upd_same, rfl, _, _, rfl, _, _, rfl, rfl, ?_⟩
    refine hs i as[i] _ _ _ e1 (sm.trans sT) (fun z H4 hz4 s4 => ⟨_, s4 _ _ (sT _ _ eD), ?_, ?_, same_mut nD ((sm.trans sT).trans s4)⟩) (fun H3 h3 s3 => ⟨?_, (sm.trans sT).trans s3⟩)
    · rw [List.length_map]
      refine big (Nat.le_trans (fm_len _ _ i) ?_)
      rw [List.length_zipIdx]
      omega
    · rw [upd_same, fm_succ ez, hz4, List.map_append]
      rfl
    · rw [fm_succ ez, h3]
      simpa using s3 _ _ (sT _ _ eD)
  · rintro H ⟨eD, sm⟩
    rw [List.length_map, ← List.length_zipIdx (l := as) (i := 0), List.take_length] at eD
    exact hd H sm eD
end

/-! ### the program: numbers dealt -/
def ov : Option Int → V
  | none => .non
  | some c => .int c
def small (i : Int) : Prop := i.natAbs < 2 ^ 400
theorem small_mul {i j : Int} (h : small i) (h2 : small j) : CMulW i j := wide_mul h h2 (by decide) (by decide) (by decide)
theorem small_le {i j : Int} (h0 : 0 ≤ i) (h : i ≤ j) (h2 : small j) : small i := Nat.lt_of_le_of_lt (by omega) h2
theorem small_div {i j : Int} (h0 : 0 < j) (h : small j) : CDivW i j := wide_div h0 h (by decide) (by decide)
def spWholeI : Sp := fun vs H Q _ => ∃ i : Int, vs = [.int i] ∧ Q (.bl true) H
def spCountI : Sp := fun vs H Q _ => ∃ i : Int, vs = [.int i] ∧ 0 ≤ i ∧ Q (.bl true) H
def spNoList : Sp := fun vs H Q _ => ∃ (a : Addr) (xs : List V), vs = [.ref a] ∧ H a = some (.lst xs) ∧ Q .non H
def spNoCounts : Sp := fun vs H Q _ => ∃ (a : Addr) (ns : List Int), vs = [.ref a] ∧ H a = some (.lst (ns.map V.int)) ∧ (∀ n ∈ ns, 0 ≤ n) ∧ Q .non H
def spNoWeights : Sp := fun vs H Q _ => ∃ (a : Addr) (ns : List Int), vs = [.ref a, .int (ns.length : Int)] ∧ H a = some (.lst (ns.map V.int)) ∧ (∀ n ∈ ns, 0 ≤ n) ∧ Q .non H
def spB (cap : Bool) : Sp := fun vs H Q _ => ∃ (x : Pr) (top bot : Int), vs = [ov x.1, .int x.2, .int top, .int bot] ∧ (cap = false → x.1 ≠ none) ∧ small (lim x) ∧ small x.2 ∧ small top ∧ small bot ∧ Q (.bl (bnd cap x top bot)) H
def spRun : Sp := fun vs H Q _ => ∃ (room : Int) (a : Addr) (ns : List Int), vs = [.int room, .ref a] ∧ H a = some (.lst (ns.map V.int)) ∧ (∀ n ∈ ns, 0 ≤ n) ∧ 0 < ns.sum ∧ small ns.sum ∧ small room ∧ ns.length ≤ 4000 ∧
  ∀ p H', H p = none → Same H H' → H' p = some (.lst ((runs room ns.sum 0 ns).map V.int)) → Q (.ref p) H'
def spLow : Sp := fun vs H Q _ => ∃ top bot : Nat, vs = [.int (top : Int), .int (bot : Int)] ∧ 0 < bot ∧ small (top : Int) ∧ small (bot : Int) ∧
  ∀ p H', H p = none → Same H H' → H' p = some (.tup [.int ((top / Nat.gcd top bot : Nat) : Int), .int ((bot / Nat.gcd top bot : Nat) : Int)]) → Q (.ref p) H'
def nmB : Bool → Str
  | true => "cap_binds"
  | false => "floor_binds"
def hasB (c : Bool) : Prop := c = true
def p0 (x : Pr) : Bool := decide (0 < x.2)
def eI (x : Pr × Nat) : V := .int (x.2 : Nat)
def frI (cap : Bool) (room W : Int) (ps : List Pr) : List (Pr × Nat) := ps.zipIdx.filter fun x => free cap room W x.1
structure Fits (total : Int) (ps : List Pr) : Prop where
  good : Good ps
  t0 : 0 ≤ total
  t1 : small total
  l1 : ∀ x ∈ ps, small (lim x)
  w1 : small (sumW ps)
  n1 : ps.length ≤ 4000
def Lev0 (cap : Bool) (total : Int) (ps : List Pr) : Prop := Lev cap total ps p0 (total - sumL (ps.filter fun x => !p0 x)) (sumW (ps.filter p0))
def spUnb (mg : Str → Option Value) : Sp := fun vs H Q _ => ∃ (total : Int) (la wa f : Addr) (cap : Bool) (ps : List Pr), vs = [.int total, .ref la, .ref wa, .ref f] ∧ (mg (nmB cap) = some (.ref f) ∧ hasB cap) ∧ H la = some (.lst (ps.map fun x => ov x.1)) ∧ H wa = some (.lst (ps.map fun x => .int x.2)) ∧
  Fits total ps ∧ Lev0 cap total ps ∧
  ∀ t fl room W H', H t = none → Fix cap total ps room W → room ≤ total → W ≤ sumW ps → H' t = some (.tup [.ref fl, .int room, .int W]) → H' fl = some (.lst ((frI cap room W ps).map eI)) → Same H H' → Q (.ref t) H'
/-- what a level told is -/
def LvAt (H : Hp) (v : V) : Option (Int × Int) → Prop
  | none => v = .non
  | some (a, b) => ∃ q, v = .ref q ∧ H q = some (.tup [.int a, .int b])
def spBy (mg : Str → Option Value) : Sp := fun vs H Q _ => ∃ (total : Int) (la wa f : Addr) (cap : Bool) (ps : List Pr), vs = [.int total, .ref la, .ref wa, .ref f] ∧ (mg (nmB cap) = some (.ref f) ∧ hasB cap) ∧ H la = some (.lst (ps.map fun x => ov x.1)) ∧ H wa = some (.lst (ps.map fun x => .int x.2)) ∧
  Fits total ps ∧ Lev0 cap total ps ∧
  ∀ t p lv room W H', H t = none → H p = none → Fix cap total ps room W → H' t = some (.tup [lv, .ref p]) → LvAt H' lv (some (low room W)) → H' p = some (.lst ((runP room W (free cap room W) 0 ps).map V.int)) → Same H H' → Q (.ref t) H'
theorem fm_filter {α : Type} (p : α → Bool) : ∀ l : List α, (l.filterMap fun y => if p y = true then some y else none) = l.filter p
  | [] => rfl
  | x :: r => by
    rw [List.filterMap_cons, fm_filter p r, List.filter_cons]
    cases p x <;> rfl
theorem fm_some {α β : Type} (f : α → β) : ∀ l : List α, (l.filterMap fun y => some (f y)) = l.map f
  | [] => rfl
  | x :: r => by
    rw [List.filterMap_cons, fm_some f r]
    rfl
section
variable {P : Program} {w : World} {K : PySem.W.Frag} {mg : Str → Option Value} {base : Heap}
theorem ok_wholeI (T : Txt K mg) : Ok P w K mg base CX0 "is_whole" s_p_is_whole 1 ["thing"] spWholeI := by
  refine T.h_p_is_whole.ok sc_p_is_whole (fun vs H Q E h => ?_) (fun f cdv A outer s H vs Q E hr h => ?_)
  · obtain ⟨x, rfl, _⟩ := h; rfl
  obtain ⟨i, rfl, q⟩ := h
  refine ⟨_, (pss_one (ps_ret (pe_and (pe_callB call_isi (by rfl) T.m_isinstance (by decide +kernel) (pa_cons (pv 0) (pa_cons (pe_bltn (v := .ty "int") (by rfl) T.m_int (by decide +kernel) rfl) pa_nil))) (pe_one (pe_not (pe_callB call_isi (by rfl) T.m_isinstance (by decide +kernel) (pa_cons (pv 0) (pa_cons (pe_bltn (v := .ty "bool") (by rfl) T.m_bool (by decide +kernel) rfl) pa_nil)))))))), ?_⟩
  refine ⟨_, rfl, _, _, _, _, true, rfl, .ty _, .base (.int i), kit_ty (by decide +kernel), true, rfl, iteT ?_⟩
  exact ⟨_, rfl, _, _, _, _, false, rfl, .ty _, .base (.int i), kit_ty (by decide +kernel), false, rfl, q⟩
theorem ok_countI (T : Txt K mg) : Ok P w K mg base CX0 "is_count" s_p_is_count 2 ["thing"] spCountI := by
  have O_p_is_whole := ok_wholeI (P := P) (w := w) (base := base) T
  refine T.h_p_is_count.ok sc_p_is_count (fun vs H Q E h => ?_) (fun f cdv A outer s H vs Q E hr h => ?_)
  · obtain ⟨x, rfl, _⟩ := h; rfl
  obtain ⟨i, rfl, i0, q⟩ := h
  refine ⟨_, (pss_one (ps_ret (pe_and (callO O_p_is_whole (hr.mono (by decide)) (by rfl) (pa_cons (pv 0) pa_nil)) (pe_one (pe_cmpR op_ge (pv 0) pe_int (nomark _)))))), ?_⟩
  refine ⟨_, rfl, i, rfl, true, rfl, iteT ?_⟩
  refine ⟨_, rfl, _, _, rfl, rfl, ?_⟩
  show Q (.bl (decide (0 ≤ i))) H
  rw [decide_eq_true i0]
  exact q
theorem ok_no_list (T : Txt K mg) : Ok P w K mg base CX0 "refuse_no_list" s_p_refuse_no_list 1 ["thing"] spNoList := by
  refine T.h_p_refuse_no_list.ok sc_p_refuse_no_list (fun vs H Q E h => ?_) (fun f cdv A outer s H vs Q E hr h => ?_)
  · obtain ⟨a, x, rfl, _⟩ := h; rfl
  obtain ⟨a, x, rfl, ha, q⟩ := h
  refine ⟨_, (pss_one (ps_if (pt_not (pt_val (pe_callB call_isi (by rfl) T.m_isinstance (by decide +kernel) (pa_cons (pv 0) (pa_cons (pe_bltn (v := .ty "list") (by rfl) T.m_list (by decide +kernel) rfl) pa_nil)))))
      (pss_one ps_never)
      pss_nil)), ?_⟩
  exact ⟨_, rfl, _, _, _, _, true, rfl, .ty _, .base (.lst ha), kit_ty (by decide +kernel), true, rfl, iteF q⟩
theorem ok_no_counts (T : Txt K mg) : Ok P w K mg base CX0 "refuse_no_counts" s_p_refuse_no_counts 3 ["things"] spNoCounts := by
  have O_p_is_count := ok_countI (P := P) (w := w) (base := base) T
  refine T.h_p_refuse_no_counts.ok sc_p_refuse_no_counts (fun vs H Q E h => ?_) (fun f cdv A outer s H vs Q E hr h => ?_)
  · obtain ⟨a, x, rfl, _⟩ := h; rfl
  obtain ⟨a, ns, rfl, ha, h0, q⟩ := h
  refine ⟨_, (pss_one (ps_for PassesOwn.never rfl (pi_list (pv 0)) (pg_name (i := 1) sc_p_refuse_no_counts.nd rfl (by first | exact Or.inl rfl | exact Or.inr rfl))
      (pss_one (ps_if (pt_not (pt_val (callO O_p_is_count (hr.mono (by decide)) (by rfl) (pa_cons (pv 1) pa_nil))))
      (pss_one ps_never)
      pss_nil)))), ?_⟩
  refine ⟨_, rfl, a, rfl, ⟨_, .of ha⟩, for_list (K := K) (a := a) (xs := ns.map V.int) (fun i σ H' => ∃ v1, σ = [some (.ref a), v1] ∧ H' = H) ⟨none, rfl, rfl⟩ (fun i σ H' _ h => by obtain ⟨_, _, rfl⟩ := h; exact .of ha) ?_ ?_⟩
  · rintro i y σ H' hi ⟨v1, rfl, rfl⟩
    obtain ⟨z, rfl, hz⟩ := int_at hi
    exact ⟨_, rfl, z, rfl, h0 z (List.mem_of_getElem? hz), true, rfl, iteF ⟨_, rfl, rfl⟩⟩
  · rintro σ H' ⟨v1, rfl, rfl⟩
    exact q
theorem ok_no_weights (T : Txt K mg) : Ok P w K mg base CX0 "refuse_no_weights" s_p_refuse_no_weights 4 ["weights", "many"] spNoWeights := by
  have O_p_refuse_no_list := ok_no_list (P := P) (w := w) (base := base) T
  have O_p_refuse_no_counts := ok_no_counts (P := P) (w := w) (base := base) T
  refine T.h_p_refuse_no_weights.ok sc_p_refuse_no_weights (fun vs H Q E h => ?_) (fun f cdv A outer s H vs Q E hr h => ?_)
  · obtain ⟨a, x, rfl, _⟩ := h; rfl
  obtain ⟨a, ns, rfl, ha, h0, q⟩ := h
  refine ⟨_, (pss_cons (ps_expr (callO O_p_refuse_no_list (hr.mono (by decide)) (by rfl) (pa_cons (pv 0) pa_nil)))
      (pss_cons (ps_expr (callO O_p_refuse_no_counts (hr.mono (by decide)) (by rfl) (pa_cons (pv 0) pa_nil)))
      (pss_one (ps_if (pt_cmpR op_ne (pe_callB call_len (by rfl) T.m_len (by decide +kernel) (pa_cons (pv 0) pa_nil)) (pv 1) (nomark _))
      (pss_one ps_never)
      pss_nil)))), ?_⟩
  refine ⟨_, rfl, a, _, rfl, ha, ?_⟩
  refine ⟨_, rfl, a, ns, rfl, ha, h0, ?_⟩
  refine ⟨_, rfl, _, _, rfl, .inl ⟨_, .of ha, rfl⟩, _, rfl, rfl, _, rfl, ?_⟩
  rw [List.length_map, decide_eq_true rfl]
  exact iteF q
theorem ok_cap_binds (T : Txt K mg) : Ok P w K mg base CX0 "cap_binds" s_p_cap_binds 1 ["cap", "weight", "top", "bottom"] (spB true) := by
  refine T.h_p_cap_binds.ok sc_p_cap_binds (fun vs H Q E h => ?_) (fun f cdv A outer s H vs Q E hr h => ?_)
  · obtain ⟨a, _, _, rfl, _⟩ := h; rfl
  obtain ⟨⟨c, wt⟩, top, bot, rfl, _, s1, s2, s3, s4, q⟩ := h
  refine ⟨_, (pss_one (ps_ret (pe_and (pe_cmpR op_notN (pv 0) pe_non (nomark _)) (pe_one (pe_cmpR op_le (pe_op op_mulW (pv 0) (pv 3)) (pe_op op_mulW (pv 2) (pv 1)) (nomark _)))))), ?_⟩
  cases c with
  | none => exact ⟨_, rfl, rfl, _, rfl, iteF q⟩
  | some c => exact ⟨_, rfl, rfl, _, rfl, iteT ⟨_, rfl, _, rfl, _, _, rfl, rfl, small_mul s1 s4, _, rfl, _, rfl, _, _, rfl, rfl, small_mul s3 s2, _, _, rfl, rfl, q⟩⟩
theorem take_sum_succ {ns : List Int} {i : Nat} {z : Int} (h : ns[i]? = some z) : (ns.take (i + 1)).sum = (ns.take i).sum + z := by
  rw [List.take_add_one, h, List.sum_append]
  simp
theorem take_sum_le {ns : List Int} (h : ∀ n ∈ ns, 0 ≤ n) (i : Nat) : 0 ≤ (ns.take i).sum ∧ (ns.take i).sum ≤ ns.sum := by
  have h1 := sum_nonneg (fun n : Int => n) (ns.take i) fun x hx => h x (List.mem_of_mem_take hx)
  have h2 := sum_nonneg (fun n : Int => n) (ns.drop i) fun x hx => h x (List.mem_of_mem_drop hx)
  have h3 : ns.sum = (ns.take i).sum + (ns.drop i).sum := by
    rw [← List.sum_append, List.take_append_drop]
  simp only [List.map_id'] at h1 h2
  omega
theorem ok_running (T : Txt K mg) : Ok P w K mg base CX0 "running_parts" s_p_running_parts 1 ["room", "weights"] spRun := by
  refine T.h_p_running_parts.ok sc_p_running_parts (fun vs H Q E h => ?_) (fun f cdv A outer s H vs Q E hr h => ?_)
  · obtain ⟨_, a, _, rfl, _⟩ := h; rfl
  obtain ⟨room, a, ns, rfl, ha, h0, hp, hs, hm, hl, q⟩ := h
  refine ⟨_, (pss_cons (ps_set (i := 2) sc_p_running_parts.nd rfl (by first | exact Or.inl rfl | exact Or.inr rfl) (pe_callB (cr_sum rfl) (by rfl) T.m_sum (by decide +kernel) (pa_cons (pv 1) pa_nil)))
      (pss_cons (ps_set (i := 3) sc_p_running_parts.nd rfl (by first | exact Or.inl rfl | exact Or.inr rfl) (pe_lst pa_nil))
      (pss_cons (ps_set (i := 4) sc_p_running_parts.nd rfl (by first | exact Or.inl rfl | exact Or.inr rfl) pe_int)
      (pss_cons (ps_set (i := 5) sc_p_running_parts.nd rfl (by first | exact Or.inl rfl | exact Or.inr rfl) pe_int)
      (pss_cons (ps_for PassesOwn.never rfl (pi_list (pv 1)) (pg_name (i := 6) sc_p_running_parts.nd rfl (by first | exact Or.inl rfl | exact Or.inr rfl))
      (pss_cons (ps_aug (i := 4) sc_p_running_parts.nd rfl (by first | exact Or.inl rfl | exact Or.inr rfl) (pv 6) ip_add)
      (pss_cons (ps_set (i := 7) sc_p_running_parts.nd rfl (by first | exact Or.inl rfl | exact Or.inr rfl) (pe_op op_fdivW (pe_op op_mulW (pv 0) (pv 4)) (pv 2)))
      (pss_cons (ps_expr (pe_bm PySem.F.plainAttrs_list PySem.F.slot_list_append PySem.F.type_list_append mt_append (pv 3) (pa_cons (pe_op op_sub (pv 7) (pv 5)) pa_nil)))
      (pss_one (ps_set (i := 5) sc_p_running_parts.nd rfl (by first | exact Or.inl rfl | exact Or.inr rfl) (pv 7)))))))
      (pss_one (ps_ret (pv 3)))))))), ?_⟩
  refine ⟨_, rfl, a, ns, rfl, .of ha, (by show 0 ≤ sizeLine; decide), fun S nS => ?_⟩
  have sS := same_upd (o := .lst []) nS
  have eS : (upd H S (.lst [])) S = some (.lst []) := upd_same
  generalize upd H S (.lst []) = HB at sS eS ⊢
  refine ⟨_, rfl, a, rfl, ⟨_, .of (sS _ _ ha)⟩, for_list (K := K) (a := a) (xs := ns.map V.int) (fun i σ H' => ∃ v6 v7, σ = [some (.int room), some (.ref a), some (.int ns.sum), some (.ref S), some (.int (ns.take i).sum), some (.int (room * (ns.take i).sum / ns.sum)), v6, v7] ∧ H' S = some (.lst ((runs room ns.sum 0 (ns.take i)).map V.int)) ∧ Same H H')
    ⟨none, none, by simp; rfl, eS, sS⟩ (fun i σ H' _ h => by obtain ⟨_, _, _, _, z⟩ := h; exact .of (z _ _ ha)) ?_ ?_⟩
  · rintro i y σ H' hi ⟨v6, v7, rfl, eSi, sm⟩
    obtain ⟨z, rfl, hz⟩ := int_at hi
    have b1 := take_sum_le h0 (i + 1)
    have e1 := take_sum_succ hz
    have hil : i < ns.length := (List.getElem?_eq_some_iff.mp hz).1
    refine ⟨_, rfl, _, rfl, _, _, rfl, rfl, ?_⟩
    refine ⟨_, rfl, _, rfl, _, _, rfl, rfl, small_mul hm (by show small ((ns.take i).sum + z); rw [← e1]; exact small_le b1.1 b1.2 hs), _, rfl, _, _, rfl, rfl, small_div hp hs, ?_⟩
    refine ⟨_, rfl, .inl ⟨rfl, _, .of eSi⟩, _, rfl, _, rfl, _, _, rfl, rfl, S, _, _, rfl, rfl, eSi, ?_, ?_⟩
    · rw [List.length_map, runs_len, List.length_take]
      exact big (by omega)
    refine ⟨_, rfl, _, _, by rw [e1]; rfl, ?_, same_mut nS sm⟩
    rw [upd_same, List.take_add_one, hz]
    show _ = some (HO.lst ((runs room ns.sum 0 (ns.take i ++ [z])).map V.int))
    rw [runs_snoc, Int.zero_add, List.map_append]
    rfl
  · rintro σ H' ⟨v6, v7, rfl, eSi, sm⟩
    rw [List.length_map, List.take_length] at eSi
    exact ⟨_, rfl, q S H' nS sm eSi⟩
theorem ok_low (T : Txt K mg) : Ok P w K mg base CX0 "in_lowest_terms" s_p_in_lowest_terms 1 ["top", "bottom"] spLow := by
  refine T.h_p_in_lowest_terms.ok sc_p_in_lowest_terms (fun vs H Q E h => ?_) (fun f cdv A outer s H vs Q E hr h => ?_)
  · obtain ⟨_, _, rfl, _⟩ := h; rfl
  obtain ⟨top, bot, rfl, hb, s1, s2, q⟩ := h
  refine ⟨_, (pss_cons (ps_set (i := 2) sc_p_in_lowest_terms.nd rfl (by first | exact Or.inl rfl | exact Or.inr rfl) (pv 1))
      (pss_cons (ps_set (i := 3) sc_p_in_lowest_terms.nd rfl (by first | exact Or.inl rfl | exact Or.inr rfl) (pv 0))
      (pss_cons (ps_while PassesOwn.never (pt_cmpR op_gt (pv 3) pe_int (nomark _))
      (pss_one (ps_par (i := 2) (j := 3) (by rfl) sc_p_in_lowest_terms.nd rfl rfl (by decide) rfl rfl (pa_cons (pv 3) (pa_cons (pe_op op_mod (pv 2) (pv 3)) pa_nil)) (by rfl))))
      (pss_one (ps_ret (pe_tup (pa_cons (pe_op op_fdivW (pv 0) (pv 2)) (pa_cons (pe_op op_fdivW (pv 1) (pv 2)) pa_nil)))))))), ?_⟩
  refine ⟨_, rfl, _, rfl, fun m σ H' => ∃ d r : Nat, σ = [some (.int (top : Int)), some (.int (bot : Int)), some (.int (d : Int)), some (.int (r : Int))] ∧ 0 < d ∧ Nat.gcd d r = Nat.gcd top bot ∧ small (d : Int) ∧ small (r : Int) ∧ m = r ∧ H' = H,
    ⟨top, bot, top, rfl, hb, Nat.gcd_comm _ _, s2, s1, rfl, rfl⟩, ?_⟩
  rintro m σ H' ⟨d, r, rfl, d0, hg, sd, sr, rfl, rfl⟩
  refine ⟨_, rfl, _, _, rfl, rfl, _, rfl, ite2 (fun e => ?_) (fun e => ?_)⟩
  · have e1 := of_decide_eq_true e
    refine ⟨fun σ2 H2 => ∃ d2 r2 : Nat, σ2 = [some (.int (top : Int)), some (.int (bot : Int)), some (.int (d2 : Int)), some (.int (r2 : Int))] ∧ 0 < d2 ∧ Nat.gcd d2 r2 = Nat.gcd top bot ∧ small (d2 : Int) ∧ small (r2 : Int) ∧ r2 < m ∧ H2 = H', ?_, ?_⟩
    · rintro σ2 H2 ⟨d2, r2, h1, h2, h3, h4, h5, h6, h7⟩
      exact ⟨r2, h6, d2, r2, h1, h2, h3, h4, h5, rfl, h7⟩
    · have m0 : 0 < m := by omega
      have hlt := Nat.mod_lt d m0
      refine ⟨_, rfl, _, rfl, _, rfl, _, _, rfl, rfl, e1, _, _, rfl, ?_⟩
      refine ⟨m, d % m, ?_, m0, ?_, sr, ?_, hlt, rfl⟩
      · rw [Int.natCast_emod]
        rfl
      · rw [← hg, Nat.gcd_comm d m, Nat.gcd_rec m d, Nat.gcd_comm]
      · exact small_le (by omega) (by omega) sr
  · have hr0 : m = 0 := by
      have : ¬ (0 : Int) < (m : Int) := fun z => e (decide_eq_true z)
      omega
    subst hr0
    rw [Nat.gcd_zero_right] at hg
    have dd : (0 : Int) < (d : Int) := by omega
    refine ⟨_, rfl, _, rfl, _, _, rfl, rfl, small_div dd sd, _, rfl, _, rfl, _, _, rfl, rfl, small_div dd sd, (by show 2 ≤ sizeLine; decide), fun p np => ?_⟩
    refine q p _ np (same_upd np) ?_
    rw [upd_same, ← hg, Int.natCast_ediv, Int.natCast_ediv]
end

/-! ### the level is found -/
theorem fm_zip_self {α β : Type} (F : α → α → Option β) : ∀ l : List α, ((l.zip l).filterMap fun p => F p.1 p.2) = l.filterMap fun x => F x x
  | [] => rfl
  | x :: r => by
    rw [List.zip_cons_cons, List.filterMap_cons, List.filterMap_cons, fm_zip_self F r]
theorem fm_zero : ∀ ps : List Pr, (∀ x ∈ ps, 0 ≤ x.2) → (ps.filterMap fun x => if x.2 = 0 then some (lim x) else none) = (ps.filter fun x => !p0 x).map lim
  | [], _ => rfl
  | x :: r, h => by
    have h1 := h x List.mem_cons_self
    rw [List.filterMap_cons, fm_zero r fun y hy => h y (List.mem_cons_of_mem _ hy), List.filter_cons]
    by_cases e : x.2 = 0
    · rw [if_pos e, show p0 x = false from decide_eq_false (by omega)]
      rfl
    · rw [if_neg e, show p0 x = true from decide_eq_true (by omega)]
      rfl
theorem sumW_p0 : ∀ ps : List Pr, (∀ x ∈ ps, 0 ≤ x.2) → sumW (ps.filter p0) = (ps.map fun x => x.2).sum
  | [], _ => rfl
  | x :: r, h => by
    have h1 := h x List.mem_cons_self
    have ih := sumW_p0 r fun y hy => h y (List.mem_cons_of_mem _ hy)
    rw [List.filter_cons, List.map_cons, List.sum_cons, ← ih]
    by_cases e : x.2 = 0
    · rw [show p0 x = false from decide_eq_false (by omega), e, if_neg (by decide)]
      omega
    · rw [show p0 x = true from decide_eq_true (by omega), if_pos rfl]
      rfl
theorem ff {α : Type} (p q : α → Bool) : ∀ l : List α, (l.filter p).filter q = l.filter fun x => p x && q x
  | [] => rfl
  | x :: r => by
    have ih := ff p q r
    cases hp : p x <;> cases hq : q x <;> simp [List.filter_cons, hp, hq, ih]
theorem filter_split_len {α : Type} (p b : α → Bool) : ∀ l : List α, (l.filter p).length = (l.filter fun x => p x && b x).length + (l.filter fun x => p x && !b x).length
  | [] => rfl
  | x :: r => by
    have ih := filter_split_len p b r
    cases hp : p x <;> cases hb : b x <;> simp [List.filter_cons, hp, hb] <;> omega
theorem zip_fst {β : Type} (q : Pr → Bool) (f : Pr → β) : ∀ (ps : List Pr) (k : Nat), ((ps.zipIdx k).filter fun x => q x.1).map (fun x => f x.1) = (ps.filter q).map f
  | [], _ => rfl
  | x :: r, k => by
    have ih := zip_fst q f r (k + 1)
    rw [List.zipIdx_cons]
    cases h : q x <;> simp [List.filter_cons, h, ih]
theorem zidx {ps : List Pr} {x : Pr × Nat} (h : x ∈ ps.zipIdx) : ps[x.2]? = some x.1 := by
  obtain ⟨a, i⟩ := x
  exact List.mem_zipIdx_iff_getElem?.mp h
theorem inV_idx {ps : List Pr} {l : List (Pr × Nat)} {x : Pr × Nat} (hl : ∀ y ∈ l, y ∈ ps.zipIdx) (hx : x ∈ ps.zipIdx) : inV (eI x) (l.map eI) = decide (x ∈ l) := by
  unfold inV
  by_cases h : x ∈ l
  · rw [decide_eq_true h, List.any_eq_true]
    refine ⟨eI x, List.mem_map.mpr ⟨x, h, rfl⟩, ?_⟩
    show ((x.2 : Int) == (x.2 : Int)) = true
    simp
  · rw [decide_eq_false h, List.any_eq_false]
    intro v hv e
    obtain ⟨y, hy, rfl⟩ := List.mem_map.mp hv
    have e2 : ((y.2 : Int) == (x.2 : Int)) = true := e
    have e3 : y.2 = x.2 := by
      have e5 := eq_of_beq e2
      omega
    have h1 := zidx (hl y hy)
    have h2 := zidx hx
    rw [e3, h2] at h1
    have e4 : x.1 = y.1 := Option.some.inj h1
    have : x = y := Prod.ext e4 e3.symm
    rw [this] at h
    exact h hy
theorem flat_eI (l : List (Pr × Nat)) : (l.map eI).all flatV = true := by
  rw [List.all_eq_true]
  intro v hv
  obtain ⟨y, _, rfl⟩ := List.mem_map.mp hv
  rfl
theorem ov_some {x : Pr} (h : x.1 ≠ none) : ov x.1 = .int (lim x) := by
  obtain ⟨c, w⟩ := x
  cases c with
  | none => exact absurd rfl h
  | some c => rfl
def WU (H : Hp) (total : Int) (la wa fa : Addr) (cap : Bool) (ps : List Pr) (m : Nat) (σ : L2.St) (H' : Hp) : Prop :=
  ∃ (p : Pr → Bool) (room W : Int) (fl : Addr) (v5 v6 v8 v10 : Option V), σ = [some (.int total), some (.ref la), some (.ref wa), some (.ref fa), some (.ref fl), v5, v6, some (.int room), v8, some (.int W), v10] ∧ Lev cap total ps p room W ∧
    H' fl = some (.lst ((ps.zipIdx.filter fun x => p x.1).map eI)) ∧ Same H H' ∧ m = (ps.zipIdx.filter fun x => p x.1).length
theorem Lev.small {cap : Bool} {total : Int} {ps : List Pr} {p : Pr → Bool} {room W : Int} (ft : Fits total ps) (h : Lev cap total ps p room W) : room ≤ total ∧ W ≤ sumW ps := by
  have h1 := sum_nonneg lim (ps.filter fun x => !p x) fun x hx => ft.good.l0 x (List.mem_filter.mp hx).1
  have h2 := sum_nonneg (fun x : Pr => x.2) (ps.filter fun x => !p x) fun x hx => ft.good.w0 x (List.mem_filter.mp hx).1
  have h3 := sum_split1 (fun x : Pr => x.2) p ps
  have e1 := h.eR
  have e2 := h.eW
  unfold sumL at e1
  unfold sumW at e2 ⊢
  omega
theorem Fits.small_w {total : Int} {ps : List Pr} (ft : Fits total ps) : ∀ x ∈ ps, small x.2 := fun x hx => by
  obtain ⟨s, t, e⟩ := List.append_of_mem hx
  have h1 := sum_nonneg (fun x : Pr => x.2) s fun y hy => ft.good.w0 y (by rw [e]; exact List.mem_append_left _ hy)
  have h2 := sum_nonneg (fun x : Pr => x.2) t fun y hy => ft.good.w0 y (by rw [e]; exact List.mem_append_right _ (List.mem_cons_of_mem _ hy))
  refine small_le (ft.good.w0 x hx) ?_ ft.w1
  unfold sumW
  rw [e, List.map_append, List.sum_append, List.map_cons, List.sum_cons]
  omega
theorem zlen (ps : List Pr) (q : Pr × Nat → Bool) : (ps.zipIdx.filter q).length ≤ ps.length := by
  refine Nat.le_trans (List.length_filter_le _ _) ?_
  rw [List.length_zipIdx]
  exact Nat.le_refl _
section
variable {P : Program} {w : World} {K : PySem.W.Frag} {mg : Str → Option Value} {base : Heap}
theorem binds_ok (T : Txt K mg) {cap : Bool} {fa : Addr} (hf : mg (nmB cap) = some (.ref fa)) (hb : hasB cap) : ∃ fd pn, FnOk P w K mg base CX0 1 fa fd pn (spB cap) ∧ PySem.W.keepIn K (.ref fa) = true ∧ Binds K fd pn [] := by
  cases cap with
  | true =>
    obtain ⟨f2, fd, F, G, m, b⟩ := ok_cap_binds (P := P) (w := w) (base := base) T
    have e := m.symm.trans hf
    cases e
    exact ⟨fd, _, G, F.kp, b⟩
  | false =>
    cases hb
theorem ok_unbound (T : Txt K mg) : Ok P w K mg base CX0 "unbound" s_p_unbound 2 ["total", "limits", "weights", "binds"] (spUnb mg) := by
  refine T.h_p_unbound.ok sc_p_unbound (fun vs H Q E h => ?_) (fun f cdv A outer s H vs Q E hr h => ?_)
  · obtain ⟨_, _, _, _, _, _, rfl, _⟩ := h; rfl
  obtain ⟨total, la, wa, fa, cap, ps, rfl, hf, hla, hwa, ft, lv, q⟩ := h
  obtain ⟨fd, pn, FB_binds, kB_binds, bB_binds⟩ := binds_ok (P := P) (w := w) (base := base) T hf.1 hf.2
  have n1 := ft.n1
  refine ⟨_, (pss_cons (ps_setLc (i := 4) (own := [("at", 5), ("weight", 6)]) (g := gTup K 2 (gCons (gName 5) (gCons (gName 6) gNil))) (by rfl) sc_p_unbound.nd rfl rfl (sw_true rfl rfl rfl (by decide +kernel)) (pi_enum (by rfl) T.m_enumerate (pa_cons (pv 2) pa_nil)) (blkOk_by (own := [("at", 5), ("weight", 6)]) (N := n_p_unbound) (sc := defScope s_p_unbound) (by decide +kernel)) (fun _ _ _ _ _ => (pg_tup rfl (pgs_cons (pg_name (i := 5) sc_p_unbound.nd rfl (by first | exact Or.inl rfl | exact Or.inr rfl)) (pgs_cons (pg_name (i := 6) sc_p_unbound.nd rfl (by first | exact Or.inl rfl | exact Or.inr rfl)) pgs_nil)))) (fun _ _ _ _ _ => (pts_one (pt_cmpR op_gt (pv 6) pe_int (nomark _)))) (fun _ _ _ _ _ => (pv 5)))
      (pss_cons (ps_set (i := 7) sc_p_unbound.nd rfl (by first | exact Or.inl rfl | exact Or.inr rfl) (pe_op op_sub (pv 0) (pe_callB (cr_sum rfl) (by rfl) T.m_sum (by decide +kernel) (pa_cons (pe_lc (own := [("limit", 8), ("weight", 6)]) (g := gTup K 2 (gCons (gName 8) (gCons (gName 6) gNil))) (by rfl) sc_p_unbound.nd (pi_zip (by rfl) T.m_zip (pa_cons (pv 1) (pa_cons (pv 2) pa_nil))) (blkOk_by (own := [("limit", 8), ("weight", 6)]) (N := n_p_unbound) (sc := defScope s_p_unbound) (by decide +kernel)) (fun _ _ _ _ _ => (pg_tup rfl (pgs_cons (pg_name (i := 8) sc_p_unbound.nd rfl (by first | exact Or.inl rfl | exact Or.inr rfl)) (pgs_cons (pg_name (i := 6) sc_p_unbound.nd rfl (by first | exact Or.inl rfl | exact Or.inr rfl)) pgs_nil)))) (fun _ _ _ _ _ => (pts_one (pt_cmpR op_eq (pv 6) pe_int (nomark _)))) (fun _ _ _ _ _ => (pv 8))) pa_nil))))
      (pss_cons (ps_set (i := 9) sc_p_unbound.nd rfl (by first | exact Or.inl rfl | exact Or.inr rfl) (pe_callB (cr_sum rfl) (by rfl) T.m_sum (by decide +kernel) (pa_cons (pv 2) pa_nil)))
      (pss_one (ps_while PassesOwn.never (pt_val pe_bl)
      (pss_cons (ps_set (i := 10) sc_p_unbound.nd rfl (by first | exact Or.inl rfl | exact Or.inr rfl) (pe_lc (own := [("at", 5)]) (tt := (tB (tCallL _ _ _ _ _ (tCons (tOp (rIxL K) (tVar 1) (tVar 5)) (tCons (tOp (rIxL K) (tVar 2) (tVar 5)) (tCons (tVar 7) (tCons (tVar 9) tNil))))))) (by rfl) sc_p_unbound.nd (pi_list (pv 4)) (blkOk_by (own := [("at", 5)]) (N := n_p_unbound) (sc := defScope s_p_unbound) (by decide +kernel)) (fun _ _ _ _ _ => (pg_name (i := 5) sc_p_unbound.nd rfl (by first | exact Or.inl rfl | exact Or.inr rfl))) (fun _ _ _ _ _ => (pts_one (pt_val (pe_callL FB_binds (hr.mono (by decide)) (i := 3) rfl (by first | exact Or.inl rfl | exact Or.inr (Or.inl rfl) | exact Or.inr (Or.inr rfl)) kB_binds bB_binds .nil pass0 (pa_cons (pe_ix ix_list (pv 1) (pv 5) (fun _ _ => rfl)) (pa_cons (pe_ix ix_list (pv 2) (pv 5) (fun _ _ => rfl)) (pa_cons (pv 7) (pa_cons (pv 9) pa_nil)))))))) (fun _ _ _ _ _ => (pv 5))))
      (pss_cons (ps_if (pt_cmpR op_eq (pe_callB call_len (by rfl) T.m_len (by decide +kernel) (pa_cons (pv 10) pa_nil)) pe_int (nomark _))
      (pss_one (ps_ret (pe_tup (pa_cons (pv 4) (pa_cons (pv 7) (pa_cons (pv 9) pa_nil))))))
      pss_nil)
      (pss_cons (ps_aug (i := 7) sc_p_unbound.nd rfl (by first | exact Or.inl rfl | exact Or.inr rfl) (pe_callB (cr_sum rfl) (by rfl) T.m_sum (by decide +kernel) (pa_cons (pe_lc (own := [("at", 5)]) (te := (tOp (rIxL K) (tVar 1) (tVar 5))) (by rfl) sc_p_unbound.nd (pi_list (pv 10)) (blkOk_by (own := [("at", 5)]) (N := n_p_unbound) (sc := defScope s_p_unbound) (by decide +kernel)) (fun _ _ _ _ _ => (pg_name (i := 5) sc_p_unbound.nd rfl (by first | exact Or.inl rfl | exact Or.inr rfl))) (fun _ _ _ _ _ => pts_nil) (fun _ _ _ _ _ => (pe_ix ix_list (pv 1) (pv 5) (fun _ _ => rfl)))) pa_nil)) ip_sub)
      (pss_cons (ps_aug (i := 9) sc_p_unbound.nd rfl (by first | exact Or.inl rfl | exact Or.inr rfl) (pe_callB (cr_sum rfl) (by rfl) T.m_sum (by decide +kernel) (pa_cons (pe_lc (own := [("at", 5)]) (te := (tOp (rIxL K) (tVar 2) (tVar 5))) (by rfl) sc_p_unbound.nd (pi_list (pv 10)) (blkOk_by (own := [("at", 5)]) (N := n_p_unbound) (sc := defScope s_p_unbound) (by decide +kernel)) (fun _ _ _ _ _ => (pg_name (i := 5) sc_p_unbound.nd rfl (by first | exact Or.inl rfl | exact Or.inr rfl))) (fun _ _ _ _ _ => pts_nil) (fun _ _ _ _ _ => (pe_ix ix_list (pv 2) (pv 5) (fun _ _ => rfl)))) pa_nil)) ip_sub)
      (pss_one (ps_setLc (i := 4) (own := [("at", 5)]) (tt := (tTest (tOp (rIn K true) (tVar 5) (tVar 10)))) (by rfl) sc_p_unbound.nd rfl rfl (sw_true rfl rfl rfl (by decide +kernel)) (pi_list (pv 4)) (blkOk_by (own := [("at", 5)]) (N := n_p_unbound) (sc := defScope s_p_unbound) (by decide +kernel)) (fun _ _ _ _ _ => (pg_name (i := 5) sc_p_unbound.nd rfl (by first | exact Or.inl rfl | exact Or.inr rfl))) (fun _ _ _ _ _ => (pts_one (pt_cmpR op_notIn_seq (pv 5) (pv 10) (by rfl)))) (fun _ _ _ _ _ => (pv 5))))))))))))), ?_⟩
  refine ⟨_, rfl, wa, _, rfl, .of hwa, fun D nD => lcF_enum (K := K) (as := ps) (fun x => V.int x.2) (fun y => if p0 y.1 = true then some y else none) eI (.of hwa) nD (by omega) ?_ ?_⟩
  · intro i x H' A' B' hx sm ka kb
    refine ⟨rfl, _, rfl, _, _, rfl, rfl, _, rfl, ite2 (fun e => ?_) (fun e => ?_)⟩
    · exact ⟨_, rfl, ka (x, i) _ (if_pos e) (Same.refl _)⟩
    · exact kb _ (if_neg e) (Same.refl _)
  intro H1 s1 e1
  rw [fm_filter (fun y : Pr × Nat => p0 y.1)] at e1
  refine ⟨_, rfl, _, rfl, _, rfl, la, wa, _, _, rfl, .of (s1 _ _ hla), .of (s1 _ _ hwa), fun D2 n2 => lcF_zip (K := K) (as := ps) (bs := ps) (fun x => ov x.1) (fun x => V.int x.2) (fun x y => if y.2 = 0 then some (lim x) else none) V.int (.of (s1 _ _ hla)) (.of (s1 _ _ hwa)) n2 (by omega) ?_ ?_⟩
  · intro i x y H' A' B' hx hy sm ka kb
    rw [hx] at hy
    cases hy
    refine ⟨rfl, _, rfl, rfl, _, rfl, ite2 (fun e => ?_) (fun e => ?_)⟩
    · have e0 : x.2 = 0 := by
        have := of_decide_eq_true e
        exact V.int.inj this
      refine ⟨_, rfl, ?_⟩
      rw [ov_some (lv.known x (List.mem_of_getElem? hx) (decide_eq_false (by omega)))]
      exact ka _ _ (if_pos e0) (Same.refl _)
    · refine kb _ (if_neg fun z => e ?_) (Same.refl _)
      rw [z]
      exact decide_eq_true rfl
  intro H2 s2 e2
  rw [fm_zip_self (fun (x y : Pr) => if y.2 = 0 then some (lim x) else none) ps, fm_zero ps ft.good.w0] at e2
  refine ⟨D2, _, rfl, .of e2, _, _, rfl, rfl, ?_⟩
  have hw2 : H2 wa = some (.lst ((ps.map fun x => x.2).map V.int)) := by
    rw [List.map_map]
    exact s2 _ _ (s1 _ _ hwa)
  refine ⟨_, rfl, wa, _, rfl, .of hw2, ?_⟩
  rw [← sumW_p0 ps ft.good.w0]
  refine ⟨WU H total la wa fa cap ps, ⟨_, p0, _, _, D, none, none, none, none, rfl, lv, s2 _ _ e1, s1.trans s2, rfl⟩, ?_⟩
  rintro m σ H' ⟨p, room, W, fl, v5, v6, v8, v10, rfl, L, hfl, sm, rfl⟩
  have hla' := sm _ _ hla
  have hwa' := sm _ _ hwa
  obtain ⟨b1, b2⟩ := L.small ft
  have sr : small room := small_le L.r0 b1 ft.t1
  have sw : small W := small_le (Int.le_of_lt L.w0) b2 ft.w1
  have kn : ∀ x ∈ ps, cap = false → x.1 ≠ none := fun x hx e => by
    have := L.over
    rw [if_neg (by rw [e]; decide)] at this
    exact this.1 x hx
  refine ⟨true, rfl, iteT ⟨fun σ' H'' => ∃ m', m' < (ps.zipIdx.filter fun x => p x.1).length ∧ WU H total la wa fa cap ps m' σ' H'', fun _ _ h => h, ?_⟩⟩
  refine ⟨_, rfl, fl, rfl, ⟨_, .of hfl⟩, fun B nB => lcF_list (K := K) (as := ps.zipIdx.filter fun x => p x.1) eI (fun y => if bnd cap y.1 room W = true then some y else none) eI (.of hfl) nB (Nat.le_trans (zlen _ _) (by omega)) ?_ ?_⟩
  · intro i x H3 A' B' hx s3 ka kb
    have hxm := (List.mem_filter.mp (List.mem_of_getElem? hx)).1
    have hp := zidx hxm
    have hpm := List.mem_of_getElem? hp
    refine ⟨rfl, rfl, _, rfl, _, rfl, la, _, _, _, rfl, rfl, .of (s3 _ _ hla'), atI_nat (j := x.2) (by rw [List.getElem?_map, hp]; rfl), _, rfl, _, rfl, wa, _, _, _, rfl, rfl, .of (s3 _ _ hwa'), atI_nat (j := x.2) (by rw [List.getElem?_map, hp]; rfl), _, rfl, _, rfl,
      x.1, room, W, rfl, kn x.1 hpm, ft.l1 x.1 hpm, ft.small_w x.1 hpm, sr, sw, _, rfl, ite2 (fun e => ?_) (fun e => ?_)⟩
    · exact ⟨_, rfl, ka x _ (if_pos e) (Same.refl _)⟩
    · exact kb _ (if_neg e) (Same.refl _)
  intro H3 s3 e3
  rw [fm_filter (fun y : Pr × Nat => bnd cap y.1 room W), ff] at e3
  have hla3 := s3 _ _ hla'
  have hwa3 := s3 _ _ hwa'
  have hfl3 := s3 _ _ hfl
  refine ⟨_, rfl, _, _, rfl, .inl ⟨_, .of e3, rfl⟩, rfl, _, rfl, ite2 (fun e => ?_) (fun e => ?_)⟩
  · have e0 : (ps.zipIdx.filter fun x => p x.1 && bnd cap x.1 room W) = [] := by
      have h1 := V.int.inj (of_decide_eq_true e)
      rw [List.length_map] at h1
      exact List.eq_nil_of_length_eq_zero (by omega)
    have hn : ∀ x ∈ ps, p x = true → bnd cap x room W = false := fun x hx px => by
      cases eb : bnd cap x room W with
      | false => rfl
      | true =>
        obtain ⟨i, hi⟩ := List.getElem?_of_mem hx
        have : (x, i) ∈ ps.zipIdx.filter fun x => p x.1 && bnd cap x.1 room W := List.mem_filter.mpr ⟨List.mem_zipIdx_iff_getElem?.mpr hi, by simp [px, eb]⟩
        rw [e0] at this
        cases this
    have es : (ps.zipIdx.filter fun x => p x.1) = frI cap room W ps := List.filter_congr fun x hx => L.same hn x.1 (List.mem_of_getElem? (zidx hx))
    refine ⟨_, rfl, _, rfl, _, rfl, (by show 3 ≤ sizeLine; decide), fun t nt => ?_⟩
    refine q t fl room W _ ?_ (L.fix hn) b1 b2 upd_same ?_ ((sm.trans s3).trans (same_upd nt))
    · cases eh : H t with
      | none => rfl
      | some o =>
        rw [s3 _ _ (sm _ _ eh)] at nt
        cases nt
    · rw [← es]
      exact same_upd nt _ _ hfl3
  have kb : ∀ y ∈ (ps.zipIdx.filter fun x => p x.1 && bnd cap x.1 room W), ps[y.2]? = some y.1 ∧ y.1.1 ≠ none := fun y hy => by
    obtain ⟨h1, h2⟩ := List.mem_filter.mp hy
    have hp := zidx h1
    refine ⟨hp, ?_⟩
    cases ec : cap with
    | false => exact kn _ (List.mem_of_getElem? hp) ec
    | true =>
      rw [ec] at h2
      simp at h2
      exact (bnd_cap h2.2).1
  have lb : (ps.zipIdx.filter fun x => p x.1 && bnd cap x.1 room W).length ≤ 40000 := Nat.le_trans (zlen _ _) (by omega)
  refine ⟨_, rfl, _, rfl, B, rfl, ⟨_, .of e3⟩, fun D4 n4 => lcF_list (K := K) (as := ps.zipIdx.filter fun x => p x.1 && bnd cap x.1 room W) eI (fun y => some (lim y.1)) V.int (.of e3) n4 lb ?_ ?_⟩
  · intro i x H4 A' B' hx s4 ka kb'
    obtain ⟨hp, hk⟩ := kb x (List.mem_of_getElem? hx)
    refine ⟨rfl, yes_if ⟨_, rfl, _, rfl, la, _, _, _, rfl, rfl, .of (s4 _ _ hla3), atI_nat (j := x.2) (by rw [List.getElem?_map, hp]; rfl), ?_⟩⟩
    show A' (ov x.1.1) H4
    rw [ov_some hk]
    exact ka _ _ rfl (Same.refl _)
  intro H4 s4 e4
  rw [fm_some] at e4
  refine ⟨D4, _, rfl, .of e4, _, _, rfl, rfl, ?_⟩
  refine ⟨_, rfl, _, rfl, B, rfl, ⟨_, .of (s4 _ _ e3)⟩, fun D5 n5 => lcF_list (K := K) (as := ps.zipIdx.filter fun x => p x.1 && bnd cap x.1 room W) eI (fun y => some y.1.2) V.int (.of (s4 _ _ e3)) n5 lb ?_ ?_⟩
  · intro i x H5 A' B' hx s5 ka kb'
    obtain ⟨hp, hk⟩ := kb x (List.mem_of_getElem? hx)
    exact ⟨rfl, yes_if ⟨_, rfl, _, rfl, wa, _, _, _, rfl, rfl, .of (s5 _ _ (s4 _ _ hwa3)), atI_nat (j := x.2) (by rw [List.getElem?_map, hp]; rfl), ka _ _ rfl (Same.refl _)⟩⟩
  intro H5 s5 e5
  rw [fm_some] at e5
  refine ⟨D5, _, rfl, .of e5, _, _, rfl, rfl, ?_⟩
  have hfl5 := s5 _ _ (s4 _ _ hfl3)
  have eB5 := s5 _ _ (s4 _ _ e3)
  refine ⟨_, rfl, fl, rfl, ⟨_, .of hfl5⟩, fun D6 n6 => lcF_list (K := K) (as := ps.zipIdx.filter fun x => p x.1) eI (fun y => if (!bnd cap y.1 room W) = true then some y else none) eI (.of hfl5) n6 (Nat.le_trans (zlen _ _) (by omega)) ?_ ?_⟩
  · intro i x H6 A' B' hx s6 ka kb'
    obtain ⟨hxm, hpx⟩ := List.mem_filter.mp (List.mem_of_getElem? hx)
    have hin : inV (eI x) ((ps.zipIdx.filter fun x => p x.1 && bnd cap x.1 room W).map eI) = bnd cap x.1 room W := by
      rw [inV_idx (ps := ps) (fun y hy => (List.mem_filter.mp hy).1) hxm]
      cases eb : bnd cap x.1 room W with
      | true => exact decide_eq_true (List.mem_filter.mpr ⟨hxm, by simp [hpx, eb]⟩)
      | false =>
        refine decide_eq_false fun z => ?_
        have z2 := (List.mem_filter.mp z).2
        simp [eb] at z2
    refine ⟨rfl, _, rfl, _, rfl, B, _, rfl, .inl (.of (s6 _ _ eB5)), rfl, flat_eI _, _, rfl, ?_⟩
    show if (!inV (eI x) ((ps.zipIdx.filter fun x => p x.1 && bnd cap x.1 room W).map eI)) = true then _ else _
    rw [hin]
    refine ite2 (fun e => ?_) (fun e => ?_)
    · exact ⟨_, rfl, ka x _ (if_pos e) (Same.refl _)⟩
    · exact kb' _ (if_neg e) (Same.refl _)
  intro H6 s6 e6
  rw [fm_filter (fun y : Pr × Nat => !bnd cap y.1 room W), ff] at e6
  have LS := L.step ft.good
  have z1 : ((ps.zipIdx.filter fun x => p x.1 && bnd cap x.1 room W).map fun y => lim y.1).sum = sumL (ps.filter fun x => p x && bnd cap x room W) := by
    rw [zip_fst (fun x => p x && bnd cap x room W) lim]
    rfl
  have z2 : ((ps.zipIdx.filter fun x => p x.1 && bnd cap x.1 room W).map fun y => y.1.2).sum = sumW (ps.filter fun x => p x && bnd cap x room W) := by
    rw [zip_fst (fun x => p x && bnd cap x room W) (fun x => x.2)]
    rfl
  have hne : 0 < (ps.zipIdx.filter fun x => p x.1 && bnd cap x.1 room W).length := by
    rcases Nat.eq_zero_or_pos (ps.zipIdx.filter fun x => p x.1 && bnd cap x.1 room W).length with h0 | h0
    · exfalso
      apply e
      rw [List.length_map, h0]
      exact decide_eq_true rfl
    · exact h0
  have hlen := filter_split_len (fun x : Pr × Nat => p x.1) (fun x => bnd cap x.1 room W) ps.zipIdx
  refine ⟨_, ?_, fun x => p x && !bnd cap x room W, _, _, D6, _, _, _, _, rfl, ?_, e6, (((sm.trans s3).trans s4).trans s5).trans s6, rfl⟩
  · show (ps.zipIdx.filter fun x => p x.1 && !bnd cap x.1 room W).length < _
    omega
  · show Lev cap total ps _ (room - _) (W - _)
    rw [z1, z2]
    exact LS
end

/-! ### dealt, levelled -/
theorem sback {H H' : Hp} {p : Addr} (s : Same H H') (n : H' p = none) : H p = none := by
  cases e : H p with
  | none => rfl
  | some o =>
    rw [s _ _ e] at n
    cases n
theorem ixN_at {n j : Nat} (hj : j < n) : ixN n (j : Int) = some j := by
  unfold ixN
  rw [if_pos (by omega), if_pos (by omega)]
  simp
def lims1 (x : Pr) : Pr := if 0 < x.2 then x else (some 0, x.2)
def lims (ps : List Pr) : List Pr := ps.map lims1
def allCapped (total : Int) (ps : List Pr) : Prop := (∀ x ∈ lims ps, x.1 ≠ none) ∧ sumL (lims ps) ≤ total
def Dealt (total : Int) (ps : List Pr) (lv : Option (Int × Int)) (parts : List Int) : Prop :=
  (allCapped total ps ∧ lv = none ∧ parts = (lims ps).map lim) ∨ (¬ allCapped total ps ∧ ∃ room W, Fix true total (lims ps) room W ∧ lv = some (low room W) ∧ parts = runP room W (free true room W) 0 (lims ps))
def Levelled (total : Int) (ps : List Pr) (lv : Option (Int × Int)) (parts : List Int) : Prop :=
  ((sumW ps = 0 ∨ total ≤ sumL ps) ∧ lv = none ∧ parts = ps.map lim) ∨ (¬ (sumW ps = 0 ∨ total ≤ sumL ps) ∧ ∃ room W, Fix false total ps room W ∧ lv = some (low room W) ∧ parts = runP room W (free false room W) 0 ps)
def spDealt : Sp := fun vs H Q _ => ∃ (total : Int) (ca wa : Addr) (ps : List Pr), vs = [.int total, .ref ca, .ref wa] ∧ H ca = some (.lst (ps.map fun x => ov x.1)) ∧ H wa = some (.lst (ps.map fun x => .int x.2)) ∧ Fits total ps ∧
  ∀ t p lvv lv parts H', H t = none → H p = none → Dealt total ps lv parts → H' t = some (.tup [lvv, .ref p]) → LvAt H' lvv lv → H' p = some (.lst (parts.map V.int)) → Same H H' → Q (.ref t) H'
def spLevelled : Sp := fun vs H Q _ => ∃ (total : Int) (ca wa : Addr) (ps : List Pr), vs = [.int total, .ref ca, .ref wa] ∧ H ca = some (.lst (ps.map fun x => ov x.1)) ∧ H wa = some (.lst (ps.map fun x => .int x.2)) ∧ (∀ x ∈ ps, x.1 ≠ none) ∧ Fits total ps ∧
  ∀ t p lvv lv parts H', H t = none → H p = none → Levelled total ps lv parts → H' t = some (.tup [lvv, .ref p]) → LvAt H' lvv lv → H' p = some (.lst (parts.map V.int)) → Same H H' → Q (.ref t) H'
theorem lims_w (ps : List Pr) : (lims ps).map (fun x => V.int x.2) = ps.map fun x => V.int x.2 := by
  unfold lims
  rw [List.map_map]
  refine List.map_congr_left fun x _ => ?_
  show V.int (lims1 x).2 = V.int x.2
  unfold lims1
  split <;> rfl
theorem lims_sumW (ps : List Pr) : sumW (lims ps) = sumW ps := by
  unfold sumW lims
  rw [List.map_map]
  congr 1
  refine List.map_congr_left fun x _ => ?_
  show (lims1 x).2 = x.2
  unfold lims1
  split <;> rfl
theorem fits_lims {total : Int} {ps : List Pr} (h : Fits total ps) : Fits total (lims ps) := by
  have key : ∀ y ∈ lims ps, ∃ x ∈ ps, y = lims1 x := fun y hy => by
    obtain ⟨x, hx, e⟩ := List.mem_map.mp hy
    exact ⟨x, hx, e.symm⟩
  refine ⟨⟨fun y hy => ?_, fun y hy => ?_⟩, h.t0, h.t1, fun y hy => ?_, by rw [lims_sumW]; exact h.w1, by unfold lims; rw [List.length_map]; exact h.n1⟩
  · obtain ⟨x, hx, rfl⟩ := key y hy
    have := h.good.w0 x hx
    unfold lims1
    split <;> exact this
  · obtain ⟨x, hx, rfl⟩ := key y hy
    have := h.good.l0 x hx
    unfold lims1
    split
    · exact this
    · exact Int.le_refl 0
  · obtain ⟨x, hx, rfl⟩ := key y hy
    have := h.l1 x hx
    unfold lims1
    split
    · exact this
    · exact Nat.two_pow_pos 400
theorem lims_not {ps : List Pr} {x : Pr} (hx : x ∈ lims ps) (h : p0 x = false) : x.1 = some 0 := by
  obtain ⟨y, _, rfl⟩ := List.mem_map.mp hx
  unfold lims1 at h ⊢
  split
  · rename_i h1
    rw [if_pos h1] at h
    rw [show p0 y = true from decide_eq_true h1] at h
    cases h
  · rfl
theorem sum_zero {α : Type} (f : α → Int) : ∀ l : List α, (∀ x ∈ l, f x = 0) → (l.map f).sum = 0
  | [], _ => rfl
  | x :: r, h => by
    rw [List.map_cons, List.sum_cons, h x List.mem_cons_self, sum_zero f r fun y hy => h y (List.mem_cons_of_mem _ hy)]
    rfl
theorem lev0_cap {total : Int} {ps : List Pr} (ft : Fits total ps) (h : ¬ allCapped total ps) : Lev0 true total (lims ps) := by
  have z : sumL ((lims ps).filter fun x => !p0 x) = 0 := sum_zero lim _ fun x hx => by
    obtain ⟨h1, h2⟩ := List.mem_filter.mp hx
    unfold lim
    rw [lims_not h1 (by simpa using h2)]
    rfl
  have s1 := sum_split1 lim p0 (lims ps)
  have ov : (∃ x ∈ lims ps, p0 x = true ∧ x.1 = none) ∨ total < sumL ((lims ps).filter p0) := by
    by_cases hn : ∃ x ∈ lims ps, x.1 = none
    · obtain ⟨x, hx, e⟩ := hn
      left
      refine ⟨x, hx, ?_, e⟩
      cases hp : p0 x with
      | true => rfl
      | false => rw [lims_not hx hp] at e; cases e
    · right
      have hk : ∀ x ∈ lims ps, x.1 ≠ none := fun x hx e => hn ⟨x, hx, e⟩
      have : ¬ sumL (lims ps) ≤ total := fun z => h ⟨hk, z⟩
      unfold sumL at this z ⊢
      omega
  unfold Lev0
  rw [z]
  refine ⟨fun x _ hp => of_decide_eq_true hp, rfl, by rw [z], filter_pos (fun x _ hp => of_decide_eq_true hp) ?_, by have := ft.t0; omega, fun x _ hx hp => ?_, fun x hx hp => by rw [lims_not hx hp]; simp, ?_⟩
  · rcases ov with ⟨x, hx, hp, _⟩ | h1
    · exact ⟨x, hx, hp⟩
    · by_cases hn : ∃ x ∈ lims ps, p0 x = true
      · exact hn
      · rw [none_free hn] at h1
        have : sumL [] = 0 := rfl
        have := ft.t0
        omega
  · rw [show p0 x = true from decide_eq_true hx] at hp
    cases hp
  · rw [if_pos rfl]
    rcases ov with h1 | h1
    · exact .inl h1
    · exact .inr (by omega)
theorem lev0_flo {total : Int} {ps : List Pr} (ft : Fits total ps) (hk : ∀ x ∈ ps, x.1 ≠ none) (h : ¬ (sumW ps = 0 ∨ total ≤ sumL ps)) : Lev0 false total ps := by
  have s1 := sum_split1 lim p0 ps
  have g1 := sum_nonneg lim (ps.filter p0) fun x hx => ft.good.l0 x (List.mem_filter.mp hx).1
  have g2 := sum_nonneg (fun x : Pr => x.2) ps fun x hx => ft.good.w0 x hx
  have e1 := sumW_p0 ps ft.good.w0
  have h1 : ¬ sumW ps = 0 := fun z => h (.inl z)
  have h2 : ¬ total ≤ sumL ps := fun z => h (.inr z)
  unfold sumL at h2
  unfold sumW at h1
  refine ⟨fun x _ hp => of_decide_eq_true hp, rfl, rfl, by rw [e1]; omega, ?_, fun x _ hx hp => ?_, fun x hx _ => hk x hx, ?_⟩
  · unfold sumL
    omega
  · rw [show p0 x = true from decide_eq_true hx] at hp
    cases hp
  · rw [if_neg (by decide)]
    refine ⟨hk, ?_⟩
    unfold sumL
    omega
theorem ovs_known {ps : List Pr} (h : ∀ x ∈ ps, x.1 ≠ none) : (ps.map fun x => ov x.1) = (ps.map lim).map V.int := by
  rw [List.map_map]
  exact List.map_congr_left fun x hx => ov_some (h x hx)
theorem ovs_runP {room W : Int} {f : Pr → Bool} {ps : List Pr} (h : ∀ x ∈ ps, f x = false → x.1 ≠ none) :
    setAll (ps.map fun x => ov x.1) ((((ps.zipIdx).filter fun x => f x.1).map fun x => x.2).zip ((runs room W 0 ((ps.zipIdx.filter fun x => f x.1).map fun x => x.1.2)).map V.int)) = (runP room W f 0 ps).map V.int :=
  setAll_run room W f V.int (fun x => ov x.1) ps [] 0 fun x hx hf => ov_some (h x hx hf)
theorem flat_ov (ps : List Pr) : (ps.map fun x => ov x.1).all flatV = true := by
  rw [List.all_eq_true]
  intro v hv
  obtain ⟨⟨c, _⟩, _, rfl⟩ := List.mem_map.mp hv
  cases c <;> rfl
theorem in_none (ps : List Pr) : inV .non (ps.map fun x => ov x.1) = decide (¬ ∀ x ∈ ps, x.1 ≠ none) := by
  unfold inV
  by_cases h : ∀ x ∈ ps, x.1 ≠ none
  · rw [decide_eq_false fun z => z h, List.any_eq_false]
    intro v hv e
    obtain ⟨x, hx, rfl⟩ := List.mem_map.mp hv
    simp only [ov_some (h x hx)] at e
    cases e
  · rw [decide_eq_true h, List.any_eq_true]
    have : ∃ x ∈ ps, x.1 = none := by
      refine Classical.byContradiction fun z => h fun x hx e => z ⟨x, hx, e⟩
    obtain ⟨x, hx, e⟩ := this
    refine ⟨ov x.1, List.mem_map.mpr ⟨x, hx, rfl⟩, ?_⟩
    rw [e]
    rfl
section
variable {P : Program} {w : World} {K : PySem.W.Frag} {mg : Str → Option Value} {base : Heap}
theorem ok_by_level (T : Txt K mg) : Ok P w K mg base CX0 "by_level" s_p_by_level 3 ["total", "limits", "weights", "binds"] (spBy mg) := by
  have O_p_unbound := ok_unbound (P := P) (w := w) (base := base) T
  have O_p_running_parts := ok_running (P := P) (w := w) (base := base) T
  have O_p_in_lowest_terms := ok_low (P := P) (w := w) (base := base) T
  refine T.h_p_by_level.ok sc_p_by_level (fun vs H Q E h => ?_) (fun f cdv A outer s H vs Q E hr h => ?_)
  · obtain ⟨_, _, _, _, _, _, rfl, _⟩ := h; rfl
  obtain ⟨total, la, wa, fa, cap, ps, rfl, hf, hla, hwa, ft, lv, q⟩ := h
  have n1 := ft.n1
  refine ⟨_, (pss_cons (ps_asg (callO O_p_unbound (hr.mono (by decide)) (by rfl) (pa_cons (pv 0) (pa_cons (pv 1) (pa_cons (pv 2) (pa_cons (pv 3) pa_nil))))) (pg_tup rfl (pgs_cons (pg_name (i := 4) sc_p_by_level.nd rfl (by first | exact Or.inl rfl | exact Or.inr rfl)) (pgs_cons (pg_name (i := 5) sc_p_by_level.nd rfl (by first | exact Or.inl rfl | exact Or.inr rfl)) (pgs_cons (pg_name (i := 6) sc_p_by_level.nd rfl (by first | exact Or.inl rfl | exact Or.inr rfl)) pgs_nil)))))
      (pss_cons (ps_set (i := 7) sc_p_by_level.nd rfl (by first | exact Or.inl rfl | exact Or.inr rfl) (pe_callTy call_list_of (by rfl) T.m_list (by decide +kernel) (pa_cons (pv 1) pa_nil)))
      (pss_cons (ps_for PassesOwn.never rfl (pi_zip (by rfl) T.m_zip (pa_cons (pv 4) (pa_cons (callO O_p_running_parts (hr.mono (by decide)) (by rfl) (pa_cons (pv 5) (pa_cons (pe_lc (own := [("place", 10)]) (te := (tOp (rIxL K) (tVar 2) (tVar 10))) (by rfl) sc_p_by_level.nd (pi_list (pv 4)) (blkOk_by (own := [("place", 10)]) (N := n_p_by_level) (sc := defScope s_p_by_level) (by decide +kernel)) (fun _ _ _ _ _ => (pg_name (i := 10) sc_p_by_level.nd rfl (by first | exact Or.inl rfl | exact Or.inr rfl))) (fun _ _ _ _ _ => pts_nil) (fun _ _ _ _ _ => (pe_ix ix_list (pv 2) (pv 10) (fun _ _ => rfl)))) pa_nil))) pa_nil))) (pg_tup rfl (pgs_cons (pg_name (i := 8) sc_p_by_level.nd rfl (by first | exact Or.inl rfl | exact Or.inr rfl)) (pgs_cons (pg_name (i := 9) sc_p_by_level.nd rfl (by first | exact Or.inl rfl | exact Or.inr rfl)) pgs_nil)))
      (pss_one (ps_asg (pv 9) (pg_sub (pv 7) (pv 8) set_list))))
      (pss_one (ps_ret (pe_tup (pa_cons (callO O_p_in_lowest_terms (hr.mono (by decide)) (by rfl) (pa_cons (pv 5) (pa_cons (pv 6) pa_nil))) (pa_cons (pv 7) pa_nil)))))))), ?_⟩
  refine ⟨_, rfl, _, rfl, _, rfl, _, rfl, total, la, wa, fa, cap, ps, rfl, hf, hla, hwa, ft, lv, fun t fl room W H1 nt fx b1 b2 et efl s1 => ⟨t, _, rfl, .of et, rfl, _, _, rfl, _, _, rfl, _, _, rfl, rfl, ?_⟩⟩
  have sr : small room := small_le fx.r0 b1 ft.t1
  have sw : small W := small_le (Int.le_of_lt fx.w0) b2 ft.w1
  refine ⟨_, rfl, la, _, rfl, .inl (.of (s1 _ _ hla)), fun Pp nP => ?_⟩
  have s2 := same_upd (o := .lst (ps.map fun x => ov x.1)) nP
  have eP : (upd H1 Pp (.lst (ps.map fun x => ov x.1))) Pp = some (.lst (ps.map fun x => ov x.1)) := upd_same
  generalize upd H1 Pp (.lst (ps.map fun x => ov x.1)) = H2 at s2 eP ⊢
  have hwa2 := s2 _ _ (s1 _ _ hwa)
  have hfl2 := s2 _ _ efl
  refine ⟨_, rfl, _, rfl, _, rfl, fl, rfl, ⟨_, .of hfl2⟩, fun D nD => lcF_list (K := K) (as := frI cap room W ps) eI (fun y => some y.1.2) V.int (.of hfl2) nD (Nat.le_trans (zlen _ _) (by omega)) ?_ ?_⟩
  · intro i x H3 A' B' hx s3 ka kb
    have hp := zidx (List.mem_filter.mp (List.mem_of_getElem? hx)).1
    exact ⟨rfl, yes_if ⟨_, rfl, _, rfl, wa, _, _, _, rfl, rfl, .of (s3 _ _ hwa2), atI_nat (j := x.2) (by rw [List.getElem?_map, hp]; rfl), ka _ _ rfl (Same.refl _)⟩⟩
  intro H3 s3 e3
  rw [fm_some] at e3
  have eW : ((frI cap room W ps).map fun y => y.1.2).sum = W := by
    unfold frI
    rw [zip_fst (free cap room W) (fun x => x.2)]
    exact fx.eW.symm
  refine ⟨room, D, _, rfl, e3, ?_, by rw [eW]; exact fx.w0, by rw [eW]; exact sw, sr, ?_, fun R H4 nR s4 eR => ?_⟩
  · intro n hn
    obtain ⟨y, hy, rfl⟩ := List.mem_map.mp hn
    exact ft.good.w0 _ (List.mem_of_getElem? (zidx (List.mem_filter.mp hy).1))
  · rw [List.length_map]
    exact Nat.le_trans (zlen _ _) (by omega)
  rw [eW] at eR
  have hfl4 := s4 _ _ (s3 _ _ hfl2)
  have eP4 := s4 _ _ (s3 _ _ eP)
  have nfl : fl ≠ Pp := ne_of_none efl nP
  have nR2 : R ≠ Pp := fun z => by
    rw [z] at nR
    rw [s3 _ _ eP] at nR
    cases nR
  have efl' : (frI cap room W ps).map eI = ((frI cap room W ps).map fun x => x.2).map fun (n : Nat) => V.int (n : Int) := by
    rw [List.map_map]
    rfl
  have hlen : (((frI cap room W ps).map fun x => x.2).zip ((runs room W 0 ((frI cap room W ps).map fun y => y.1.2)).map V.int)).length = min ((frI cap room W ps).map eI).length ((runs room W 0 ((frI cap room W ps).map fun y => y.1.2)).map V.int).length := by
    rw [List.length_zip, List.length_map, List.length_map, List.length_map]
  refine ⟨fl, R, _, _, rfl, .of hfl4, .of eR, for_it (L2.walk_zip (xs := (frI cap room W ps).map eI) (ys := (runs room W 0 ((frI cap room W ps).map fun y => y.1.2)).map V.int) hlen)
    (fun i σ H' => ∃ v8 v9 v10, σ = [some (.int total), some (.ref la), some (.ref wa), some (.ref fa), some (.ref fl), some (.int room), some (.int W), some (.ref Pp), v8, v9, v10] ∧ H' Pp = some (.lst (setAll (ps.map fun x => ov x.1) ((((frI cap room W ps).map fun x => x.2).zip ((runs room W 0 ((frI cap room W ps).map fun y => y.1.2)).map V.int)).take i))) ∧ Off Pp H4 H')
    ⟨none, none, none, rfl, eP4, Off.refl⟩ (fun i σ H' _ h => by
      obtain ⟨_, _, _, _, _, o⟩ := h
      exact ⟨.of (o _ _ hfl4 nfl), .of (o _ _ eR nR2)⟩) ?_ ?_⟩
  · rintro i y σ H' H'' hi ⟨v8, v9, v10, rfl, hP, o⟩ ⟨Tt, x, z, rfl, nT, rfl, hx, hz⟩
    replace hx : ((frI cap room W ps).map eI)[i]? = some x := hx
    replace hz : ((runs room W 0 ((frI cap room W ps).map fun y => y.1.2)).map V.int)[i]? = some z := hz
    rw [List.getElem?_map] at hx
    cases ex : (frI cap room W ps)[i]? with
    | none => rw [ex] at hx; cases hx
    | some yy =>
      rw [ex] at hx
      cases hx
      have hp := zidx (List.mem_filter.mp (List.mem_of_getElem? ex)).1
      have ez : (((frI cap room W ps).map fun x => x.2).zip ((runs room W 0 ((frI cap room W ps).map fun y => y.1.2)).map V.int))[i]? = some (yy.2, z) := by
        rw [List.getElem?_zip_eq_some]
        refine ⟨?_, hz⟩
        rw [List.getElem?_map, ex]
        rfl
      have hP2 := same_upd (o := .tup [eI yy, z]) nT _ _ hP
      have nTP : Tt ≠ Pp := (ne_of_none hP nT).symm
      refine ⟨Tt, _, rfl, .of upd_same, rfl, _, _, rfl, _, _, rfl, rfl, ?_⟩
      refine ⟨_, rfl, _, rfl, _, rfl, Pp, _, _, yy.2, rfl, rfl, hP2, ?_, ?_⟩
      · refine ixN_at ?_
        rw [setAll_len, List.length_map]
        exact (List.getElem?_eq_some_iff.mp hp).1
      refine ⟨_, _, _, rfl, ?_, ?_⟩
      · rw [upd_same, List.take_add_one, ez]
        show _ = some (HO.lst (setAll _ (_ ++ [(yy.2, z)])))
        rw [setAll_snoc]
      · exact (o.trans (off_new nT)).trans off_upd
  rintro σ H' ⟨v8, v9, v10, rfl, hP, o⟩
  rw [List.take_length] at hP
  rw [show (frI cap room W ps) = ps.zipIdx.filter (fun x => free cap room W x.1) from rfl, ovs_runP fx.known] at hP
  have e1 : (room.toNat : Int) = room := Int.toNat_of_nonneg fx.r0
  have e2 : (W.toNat : Int) = W := Int.toNat_of_nonneg (Int.le_of_lt fx.w0)
  have s5 : Same H H' := fun b x e => o b x (s4 _ _ (s3 _ _ (s2 _ _ (s1 _ _ e)))) (ne_of_none (s1 _ _ e) nP)
  refine ⟨_, rfl, _, rfl, room.toNat, W.toNat, by rw [e1, e2]; rfl, by have := fx.w0; omega, by rw [e1]; exact sr, by rw [e2]; exact sw, fun L H5 nL s6 eL => ⟨_, rfl, (by show 2 ≤ sizeLine; decide), fun t2 nt2 => ?_⟩⟩
  have s7 := same_upd (o := .tup [.ref L, .ref Pp]) nt2
  exact q t2 Pp (.ref L) room W _ (sback s5 (sback s6 nt2)) (sback s1 nP) fx upd_same ⟨L, rfl, s7 _ _ eL⟩ (s7 _ _ (s6 _ _ hP)) ((s5.trans s6).trans s7)
theorem ok_dealt (T : Txt K mg) : Ok P w K mg base CX0 "dealt" s_p_dealt 5 ["total", "caps", "weights"] spDealt := by
  have O_p_refuse_no_counts := ok_no_counts (P := P) (w := w) (base := base) T
  have O_p_refuse_no_list := ok_no_list (P := P) (w := w) (base := base) T
  have O_p_refuse_no_weights := ok_no_weights (P := P) (w := w) (base := base) T
  have O_p_by_level := ok_by_level (P := P) (w := w) (base := base) T
  obtain ⟨f_p_cap_binds, _, _, g_p_cap_binds, _⟩ := T.h_p_cap_binds
  refine T.h_p_dealt.ok sc_p_dealt (fun vs H Q E h => ?_) (fun f cdv A outer s H vs Q E hr h => ?_)
  · obtain ⟨_, _, _, _, rfl, _⟩ := h; rfl
  obtain ⟨total, ca, wa, ps, rfl, hca, hwa, ft, q⟩ := h
  have n1 := ft.n1
  refine ⟨_, (pss_cons (ps_expr (callO O_p_refuse_no_counts (hr.mono (by decide)) (by rfl) (pa_cons (pe_lst (pa_cons (pv 0) pa_nil)) pa_nil)))
      (pss_cons (ps_expr (callO O_p_refuse_no_list (hr.mono (by decide)) (by rfl) (pa_cons (pv 1) pa_nil)))
      (pss_cons (ps_expr (callO O_p_refuse_no_counts (hr.mono (by decide)) (by rfl) (pa_cons (pe_lc (own := [("cap", 3)]) (by rfl) sc_p_dealt.nd (pi_list (pv 1)) (blkOk_by (own := [("cap", 3)]) (N := n_p_dealt) (sc := defScope s_p_dealt) (by decide +kernel)) (fun _ _ _ _ _ => (pg_name (i := 3) sc_p_dealt.nd rfl (by first | exact Or.inl rfl | exact Or.inr rfl))) (fun _ _ _ _ _ => (pts_one (pt_cmpR op_notN (pv 3) pe_non (nomark _)))) (fun _ _ _ _ _ => (pv 3))) pa_nil)))
      (pss_cons (ps_expr (callO O_p_refuse_no_weights (hr.mono (by decide)) (by rfl) (pa_cons (pv 2) (pa_cons (pe_callB call_len (by rfl) T.m_len (by decide +kernel) (pa_cons (pv 1) pa_nil)) pa_nil))))
      (pss_cons (ps_setLc (i := 4) (own := [("cap", 3), ("weight", 5)]) (g := gTup K 2 (gCons (gName 3) (gCons (gName 5) gNil))) (by rfl) sc_p_dealt.nd rfl rfl (sw_true rfl rfl rfl (by decide +kernel)) (pi_zip (by rfl) T.m_zip (pa_cons (pv 1) (pa_cons (pv 2) pa_nil))) (blkOk_by (own := [("cap", 3), ("weight", 5)]) (N := n_p_dealt) (sc := defScope s_p_dealt) (by decide +kernel)) (fun _ _ _ _ _ => (pg_tup rfl (pgs_cons (pg_name (i := 3) sc_p_dealt.nd rfl (by first | exact Or.inl rfl | exact Or.inr rfl)) (pgs_cons (pg_name (i := 5) sc_p_dealt.nd rfl (by first | exact Or.inl rfl | exact Or.inr rfl)) pgs_nil)))) (fun _ _ _ _ _ => pts_nil) (fun _ _ _ _ _ => (pe_ifExp (pt_cmpR op_gt (pv 5) pe_int (nomark _)) (pv 3) pe_int)))
      (pss_cons (ps_if (PW.pt (pw_and (pt_cmpR op_notIn_seq pe_non (pv 4) (by rfl)) (pw_and1 (pt_cmpR op_le (pe_callB (cr_sum rfl) (by rfl) T.m_sum (by decide +kernel) (pa_cons (pv 4) pa_nil)) (pv 0) (nomark _)))))
      (pss_one (ps_ret (pe_tup (pa_cons pe_non (pa_cons (pv 4) pa_nil)))))
      pss_nil)
      (pss_one (ps_ret (callO O_p_by_level (hr.mono (by decide)) (by rfl) (pa_cons (pv 0) (pa_cons (pv 4) (pa_cons (pv 2) (pa_cons (pe_glob (v := .ref f_p_cap_binds) (by rfl) g_p_cap_binds rfl) pa_nil))))))))))))), ?_⟩
  refine ⟨_, rfl, (by show 1 ≤ sizeLine; decide), fun p1 m1 => ⟨p1, [total], rfl, upd_same, fun n hn => by rw [List.mem_singleton.mp hn]; exact ft.t0, ?_⟩⟩
  have s1 := same_upd (o := .lst [.int total]) m1
  show tSeq _ _ _ _ (upd H p1 (.lst [.int total]))
  generalize upd H p1 (.lst [.int total]) = H1 at s1 ⊢
  refine ⟨_, rfl, ca, _, rfl, s1 _ _ hca, ?_⟩
  refine ⟨_, rfl, ca, rfl, ⟨_, .of (s1 _ _ hca)⟩, fun D nD => lcF_list (K := K) (as := ps) (fun x => ov x.1) (fun x => x.1) V.int (.of (s1 _ _ hca)) nD (by omega) ?_ ?_⟩
  · rintro i ⟨c, wt⟩ H' A' B' hx sm ka kb
    cases c with
    | none => exact ⟨rfl, _, rfl, rfl, _, rfl, iteF (kb _ rfl (Same.refl _))⟩
    | some c => exact ⟨rfl, _, rfl, rfl, _, rfl, iteT ⟨_, rfl, ka _ _ rfl (Same.refl _)⟩⟩
  intro H2 s2 e2
  refine ⟨D, _, rfl, e2, fun n hn => ?_, ?_⟩
  · obtain ⟨x, hx, e⟩ := List.mem_filterMap.mp hn
    have := ft.good.l0 x hx
    unfold lim at this
    rw [e] at this
    exact this
  have s12 := s1.trans s2
  have hwa2 : H2 wa = some (.lst ((ps.map fun x => x.2).map V.int)) := by
    rw [List.map_map]
    exact s12 _ _ hwa
  refine ⟨_, rfl, _, rfl, _, _, rfl, .inl ⟨_, .of (s12 _ _ hca), rfl⟩, wa, ps.map fun x => x.2, ?_, hwa2, fun n hn => ?_, ?_⟩
  · rw [List.length_map, List.length_map]
    rfl
  · obtain ⟨x, hx, rfl⟩ := List.mem_map.mp hn
    exact ft.good.w0 x hx
  refine ⟨_, rfl, _, rfl, ca, wa, _, _, rfl, .of (s12 _ _ hca), .of (s12 _ _ hwa), fun L nL => lcF_zip (K := K) (as := ps) (bs := ps) (fun x => ov x.1) (fun x => V.int x.2) (fun x _ => some (lims1 x)) (fun x => ov x.1) (.of (s12 _ _ hca)) (.of (s12 _ _ hwa)) nL (by omega) ?_ ?_⟩
  · intro i x y H' A' B' hx hy sm ka kb
    rw [hx] at hy
    cases hy
    refine ⟨rfl, yes_if ⟨_, rfl, _, _, rfl, rfl, _, rfl, ite2 (fun e => ⟨_, rfl, ?_⟩) (fun e => ?_)⟩⟩
    · have h1 : 0 < x.2 := of_decide_eq_true e
      have := ka _ _ rfl (Same.refl H')
      unfold lims1 at this
      rw [if_pos h1] at this
      exact this
    · have h1 : ¬ 0 < x.2 := fun z => e (decide_eq_true z)
      have := ka _ _ rfl (Same.refl H')
      unfold lims1 at this
      rw [if_neg h1] at this
      exact this
  intro H3 s3 e3
  rw [fm_zip_self (fun (x _ : Pr) => some (lims1 x)) ps, fm_some] at e3
  replace e3 : H3 L = some (.lst ((lims ps).map fun x => ov x.1)) := e3
  have s13 := s12.trans s3
  have byl : ¬ allCapped total ps → tRet (tCall (spBy mg) [] E0 (tCons (tVar 0) (tCons (tVar 4) (tCons (tVar 2) (tCons (tC (.ref f_p_cap_binds)) tNil))))) { nx := fun _ H' => Q .non H', rt := Q } (List.set (L2.start n_p_dealt [V.int total, V.ref ca, V.ref wa]) 4 (some (.ref L))) H3 := fun hn => by
    refine ⟨_, rfl, _, rfl, _, rfl, total, L, wa, f_p_cap_binds, true, lims ps, rfl, ⟨g_p_cap_binds, by first | exact trivial | exact rfl⟩, e3, ?_, fits_lims ft, lev0_cap ft hn, fun t p lvv room W H' nt np fx et el ep sm => ?_⟩
    · rw [lims_w]
      exact s13 _ _ hwa
    · exact q t p lvv _ _ H' (sback s13 nt) (sback s13 np) (.inr ⟨hn, room, W, fx, rfl, rfl⟩) et el ep (s13.trans sm)
  refine ⟨_, rfl, L, _, rfl, .inl (.of e3), rfl, flat_ov _, _, rfl, ?_⟩
  rw [in_none]
  by_cases hk : ∀ x ∈ lims ps, x.1 ≠ none
  · rw [decide_eq_false fun z => z hk]
    have e4 := e3
    rw [ovs_known hk] at e4
    refine iteT ⟨_, rfl, L, _, rfl, .of e4, _, rfl, _, _, rfl, rfl, _, rfl, ite2 (fun e => ?_) (fun e => ?_)⟩
    · refine ⟨_, rfl, (by show 2 ≤ sizeLine; decide), fun t nt => ?_⟩
      have s4 := same_upd (o := .tup [.non, .ref L]) nt
      exact q t L .non none _ _ (sback s13 nt) (sback s12 nL) (.inl ⟨⟨hk, of_decide_eq_true e⟩, rfl, rfl⟩) upd_same rfl (s4 _ _ e4) (s13.trans s4)
    · exact byl fun z => e (decide_eq_true z.2)
  · rw [decide_eq_true hk]
    exact iteF (iteF (byl fun z => hk z.1))
end

/-! ### a level that is known -/
theorem mk_fits {α : Type} (f : α → Int) : ∀ (l : List α) (B : Int), (∀ x ∈ l, f x ≤ B) → 0 ≤ B → (l.map f).sum ≤ (l.length : Int) * B
  | [], B, _, _ => by simp
  | x :: r, B, h, hB => by
    have h1 := h x List.mem_cons_self
    have h2 := mk_fits f r B (fun y hy => h y (List.mem_cons_of_mem _ hy)) hB
    rw [List.map_cons, List.sum_cons, List.length_cons, Int.natCast_add, Int.add_mul]
    omega
def fnd (top : Int) (x : Pr) : Int := match x.1 with
  | none => x.2 * top
  | some c => if x.2 * top < c then x.2 * top else c
def fndF (top : Int) (x : Pr) : Int := if x.2 * top > lim x then x.2 * top else lim x
def wt (bot : Int) (x : Pr) : Pr := (x.1, x.2 * bot)
def above (top : Int) (x : Pr) : Bool := decide (0 < x.2) && (match x.1 with | none => true | some c => decide (x.2 * top < c))
section
variable {top bot : Int}
theorem free_wt (hb : 0 < bot) (x : Pr) (h0 : 0 ≤ x.2) : free true top bot (lims1 (wt bot x)) = above top x := by
  obtain ⟨c, u⟩ := x
  have h0 : 0 ≤ u := h0
  unfold lims1 wt above
  by_cases hu : 0 < u
  · have hw : 0 < u * bot := Int.mul_pos hu hb
    rw [if_pos hw]
    unfold free
    show (decide (0 < u * bot) && !bnd true (c, u * bot) top bot) = _
    rw [decide_eq_true hw, decide_eq_true hu]
    cases c with
    | none => rfl
    | some c =>
      show (!decide (c * bot ≤ top * (u * bot))) = decide (u * top < c)
      have e : top * (u * bot) = u * top * bot := by rw [← Int.mul_assoc, Int.mul_comm top u]
      rw [e]
      by_cases h : c ≤ u * top
      · rw [decide_eq_true (Int.mul_le_mul_of_nonneg_right h (Int.le_of_lt hb)), decide_eq_false (by omega)]
        rfl
      · rw [decide_eq_false (fun z => h (Int.le_of_mul_le_mul_right z hb)), decide_eq_true (by omega)]
        rfl
  · have hu0 : u = 0 := by omega
    subst hu0
    rw [if_neg (by simp)]
    unfold free
    show (decide (0 < 0 * bot) && _) = (decide ((0 : Int) < 0) && _)
    rw [Int.zero_mul]
    rfl
theorem lim_wt (hb : 0 < bot) (x : Pr) (h0 : 0 ≤ x.2) (hl : 0 ≤ lim x) (h : above top x = false) : lims1 (wt bot x) ≠ (none, x.2 * bot) ∧ (lims1 (wt bot x)).1 ≠ none ∧ lim (lims1 (wt bot x)) = fnd top x := by
  obtain ⟨c, u⟩ := x
  have h0 : 0 ≤ u := h0
  unfold lims1 wt fnd
  unfold above at h
  by_cases hu : 0 < u
  · have hw : 0 < u * bot := Int.mul_pos hu hb
    simp only [hw, if_true]
    simp only [hu, decide_true, Bool.true_and] at h
    cases c with
    | none => cases h
    | some c =>
      have h1 : ¬ u * top < c := of_decide_eq_false h
      refine ⟨by simp, by simp, ?_⟩
      show c = if u * top < c then u * top else c
      rw [if_neg h1]
  · have hu0 : u = 0 := by omega
    subst hu0
    simp only [Int.zero_mul, Int.lt_irrefl, if_false]
    refine ⟨by simp, by simp, ?_⟩
    cases c with
    | none => rfl
    | some c =>
      have : 0 ≤ c := hl
      show 0 = if 0 < c then 0 else c
      split <;> omega
theorem val_wt (hb : 0 < bot) (x : Pr) (h0 : 0 ≤ x.2) (hl : 0 ≤ lim x) : val true top bot (lims1 (wt bot x)) = fnd top x * bot := by
  unfold val
  rw [free_wt hb x h0]
  cases h : above top x with
  | true =>
    obtain ⟨c, u⟩ := x
    unfold above at h
    rw [Bool.and_eq_true] at h
    have hu : 0 < u := of_decide_eq_true h.1
    have hw : 0 < u * bot := Int.mul_pos hu hb
    rw [if_pos rfl]
    unfold lims1 wt fnd
    simp only [hw, if_true]
    have e : top * (u * bot) = u * top * bot := by rw [← Int.mul_assoc, Int.mul_comm top u]
    rw [e]
    cases c with
    | none => rfl
    | some c =>
      have h1 : u * top < c := of_decide_eq_true h.2
      show _ = (if u * top < c then u * top else c) * bot
      rw [if_pos h1]
  | false =>
    rw [if_neg (by decide), (lim_wt hb x h0 hl h).2.2]
theorem part_wt (hb : 0 < bot) (x : Pr) (h0 : 0 ≤ x.2) (hl : 0 ≤ lim x) : (if above top x = true then top * ((lims1 (wt bot x)).2 / bot) else lim (lims1 (wt bot x))) = fnd top x := by
  have e2 : (lims1 (wt bot x)).2 = x.2 * bot := by
    unfold lims1
    split <;> rfl
  cases h : above top x with
  | true =>
    rw [if_pos rfl, e2, Int.mul_ediv_cancel _ (by omega)]
    obtain ⟨c, u⟩ := x
    unfold above at h
    rw [Bool.and_eq_true] at h
    unfold fnd
    cases c with
    | none => exact Int.mul_comm _ _
    | some c =>
      have h1 : u * top < c := of_decide_eq_true h.2
      show top * u = if u * top < c then u * top else c
      rw [if_pos h1, Int.mul_comm]
  | false =>
    rw [if_neg (by decide), (lim_wt hb x h0 hl h).2.2]
end
theorem known_cap {t b : Nat} {ps : List Pr} (hb : 0 < b) (hg : Nat.gcd t b = 1) (g : Good ps) {lv : Option (Int × Int)} {parts : List Int} (h : Dealt (ps.map (fnd (t : Int))).sum (ps.map (wt (b : Int))) lv parts) :
    parts = ps.map (fnd (t : Int)) ∧ lv = if ps.any (above (t : Int)) = true then some ((t : Int), (b : Int)) else none := by
  have hb' : (0 : Int) < (b : Int) := by omega
  have el : lims (ps.map (wt (b : Int))) = ps.map fun x => lims1 (wt (b : Int) x) := by
    unfold lims
    rw [List.map_map]
    rfl
  cases hA : ps.any (above (t : Int)) with
  | true =>
    rw [List.any_eq_true] at hA
    obtain ⟨x, hx, ax⟩ := hA
    have V1 : Val true (ps.map (fnd (t : Int))).sum (lims (ps.map (wt (b : Int)))) (t : Int) (b : Int) := by
      refine ⟨hb', by omega, ?_, lims1 (wt (b : Int) x), ?_, ?_⟩
      · rw [el, List.map_map, ← sum_mulr]
        congr 1
        exact List.map_congr_left fun y hy => val_wt hb' y (g.w0 y hy) (g.l0 y hy)
      · rw [el]
        exact List.mem_map.mpr ⟨x, hx, rfl⟩
      · rw [free_wt hb' x (g.w0 x hx)]
        exact ax
    rcases h with ⟨hc, _⟩ | ⟨_, room, W, fx, rfl, rfl⟩
    · exfalso
      have := V1.over hc.1 fun y hy hy0 => by
        unfold val
        rw [if_neg]
        intro z
        have := (free_iff.mp z).1
        omega
      have := hc.2
      omega
    · have e := fx.val.unique V1
      refine ⟨?_, by rw [if_pos rfl, low_of e hg hb fx.w0 fx.r0]⟩
      have := runP_exact fx.w0 e (free true room W) (lims (ps.map (wt (b : Int)))) 0 (fun y hy => by
        rw [el] at hy
        obtain ⟨z, _, rfl⟩ := List.mem_map.mp hy
        refine ⟨z.2, ?_⟩
        unfold lims1
        split <;> rfl) hb'
      rw [Int.zero_mul] at this
      rw [this, el, List.map_map]
      refine List.map_congr_left fun y hy => ?_
      show (if free true room W (lims1 (wt (b : Int) y)) = true then _ else _) = _
      rw [free_same fx.w0 hb' e, free_wt hb' y (g.w0 y hy)]
      exact part_wt hb' y (g.w0 y hy) (g.l0 y hy)
  | false =>
    rw [List.any_eq_false] at hA
    have hA' : ∀ y ∈ ps, above (t : Int) y = false := fun y hy => by
      cases e : above (t : Int) y with
      | false => rfl
      | true => exact absurd e (hA y hy)
    have em : (lims (ps.map (wt (b : Int)))).map lim = ps.map (fnd (t : Int)) := by
      rw [el, List.map_map]
      exact List.map_congr_left fun y hy => (lim_wt hb' y (g.w0 y hy) (g.l0 y hy) (hA' y hy)).2.2
    have hc : allCapped (ps.map (fnd (t : Int))).sum (ps.map (wt (b : Int))) := by
      refine ⟨fun y hy => ?_, ?_⟩
      · rw [el] at hy
        obtain ⟨z, hz, rfl⟩ := List.mem_map.mp hy
        exact (lim_wt hb' z (g.w0 z hz) (g.l0 z hz) (hA' z hz)).2.1
      · unfold sumL
        rw [em]
        exact Int.le_refl _
    rcases h with ⟨_, rfl, rfl⟩ | ⟨hn, _⟩
    · exact ⟨em, by rw [if_neg (by decide)]⟩
    · exact absurd hc hn
theorem sumW_pos {ls : List Pr} (h : ∀ x ∈ ls, 0 ≤ x.2) (hx : ∃ x ∈ ls, 0 < x.2) : 0 < sumW ls := by
  have := sum_lt (fun _ => 0) (fun x => x.2) (ls := ls) h hx
  rw [sum_zero (fun _ => 0) ls fun _ _ => rfl] at this
  exact this
theorem free_wtF {top bot : Int} (hb : 0 < bot) (ht : 0 ≤ top) (x : Pr) (h0 : 0 ≤ x.2) (hl : 0 ≤ lim x) : free false top bot (wt bot x) = decide (x.2 * top > lim x) := by
  obtain ⟨c, u⟩ := x
  have h0 : 0 ≤ u := h0
  unfold free wt
  show (decide (0 < u * bot) && !decide (top * (u * bot) ≤ c.getD 0 * bot)) = decide (u * top > c.getD 0)
  have hl : 0 ≤ c.getD 0 := hl
  have e : top * (u * bot) = u * top * bot := by rw [← Int.mul_assoc, Int.mul_comm top u]
  rw [e]
  by_cases h : u * top ≤ c.getD 0
  · rw [decide_eq_true (Int.mul_le_mul_of_nonneg_right h (Int.le_of_lt hb)), decide_eq_false (show ¬ u * top > c.getD 0 by omega)]
    simp
  · have hu : 0 < u := by
      rcases Int.lt_or_le 0 u with z | z
      · exact z
      · exfalso
        have : u = 0 := by omega
        rw [this, Int.zero_mul] at h
        omega
    rw [decide_eq_false (fun z => h (Int.le_of_mul_le_mul_right z hb)), decide_eq_true (Int.mul_pos hu hb), decide_eq_true (by omega)]
    rfl
theorem known_flo {t b : Nat} {ps : List Pr} (hb : 0 < b) (hg : Nat.gcd t b = 1) (g : Good ps) {lv : Option (Int × Int)} {parts : List Int} (h : Levelled (ps.map (fndF (t : Int))).sum (ps.map (wt (b : Int))) lv parts) :
    parts = ps.map (fndF (t : Int)) ∧ lv = if ps.any (fun x => decide (x.2 * (t : Int) > lim x)) = true then some ((t : Int), (b : Int)) else none := by
  have hb' : (0 : Int) < (b : Int) := by omega
  have ht' : (0 : Int) ≤ (t : Int) := by omega
  cases hA : ps.any (fun x => decide (x.2 * (t : Int) > lim x)) with
  | true =>
    rw [List.any_eq_true] at hA
    obtain ⟨x, hx, ax⟩ := hA
    have V1 : Val false (ps.map (fndF (t : Int))).sum (ps.map (wt (b : Int))) (t : Int) (b : Int) := by
      refine ⟨hb', by omega, ?_, wt (b : Int) x, List.mem_map.mpr ⟨x, hx, rfl⟩, ?_⟩
      · rw [List.map_map, ← sum_mulr]
        congr 1
        refine List.map_congr_left fun y hy => ?_
        show val false (t : Int) (b : Int) (wt (b : Int) y) = fndF (t : Int) y * (b : Int)
        unfold val fndF
        rw [free_wtF hb' ht' y (g.w0 y hy) (g.l0 y hy)]
        by_cases e : y.2 * (t : Int) > lim y
        · rw [if_pos (decide_eq_true e), if_pos e]
          show (t : Int) * (y.2 * (b : Int)) = _
          rw [← Int.mul_assoc, Int.mul_comm (t : Int)]
        · rw [if_neg (by rw [decide_eq_false e]; decide), if_neg e]
          rfl
      · rw [free_wtF hb' ht' x (g.w0 x hx) (g.l0 x hx)]
        exact ax
    rcases h with ⟨hc, _⟩ | ⟨_, room, W, fx, rfl, rfl⟩
    · exfalso
      rcases hc with hc | hc
      · obtain ⟨y, hy, fy⟩ := V1.fr
        have := sumW_pos (ls := ps.map (wt (b : Int))) (fun z hz => by
          obtain ⟨v, hv, rfl⟩ := List.mem_map.mp hz
          exact Int.mul_nonneg (g.w0 v hv) (Int.le_of_lt hb')) ⟨y, hy, (free_iff.mp fy).1⟩
        omega
      · have := V1.under
        omega
    · have e := fx.val.unique V1
      refine ⟨?_, by rw [if_pos rfl, low_of e hg hb fx.w0 fx.r0]⟩
      have := runP_exact fx.w0 e (free false room W) (ps.map (wt (b : Int))) 0 (fun y hy => by
        obtain ⟨z, _, rfl⟩ := List.mem_map.mp hy
        exact ⟨z.2, rfl⟩) hb'
      rw [Int.zero_mul] at this
      rw [this, List.map_map]
      refine List.map_congr_left fun y hy => ?_
      show (if free false room W (wt (b : Int) y) = true then (t : Int) * (y.2 * (b : Int) / (b : Int)) else lim y) = fndF (t : Int) y
      rw [free_same fx.w0 hb' e, free_wtF hb' ht' y (g.w0 y hy) (g.l0 y hy), Int.mul_ediv_cancel _ (by omega)]
      unfold fndF
      by_cases e : y.2 * (t : Int) > lim y
      · rw [if_pos (decide_eq_true e), if_pos e, Int.mul_comm]
      · rw [if_neg (by rw [decide_eq_false e]; decide), if_neg e]
  | false =>
    rw [List.any_eq_false] at hA
    have em : (ps.map (wt (b : Int))).map lim = ps.map (fndF (t : Int)) := by
      rw [List.map_map]
      refine List.map_congr_left fun y hy => ?_
      show lim y = fndF (t : Int) y
      unfold fndF
      rw [if_neg]
      intro z
      exact hA y hy (decide_eq_true z)
    rcases h with ⟨_, rfl, rfl⟩ | ⟨hn, _⟩
    · exact ⟨em, by rw [if_neg (by decide)]⟩
    · exfalso
      apply hn
      right
      unfold sumL
      rw [em]
      exact Int.le_refl _

/-! ### the level at other numbers -/
theorem Val.scale {cap : Bool} {total : Int} {ls : List Pr} {r w t b : Int} (h : Val cap total ls r w) (hb : 0 < b) (ht : 0 ≤ t) (e : r * b = t * w) : Val cap total ls t b := by
  have hw := h.b0
  have hs := free_same (cap := cap) hw hb e
  refine ⟨hb, ht, ?_, ?_⟩
  · have h1 : (ls.map fun x => val cap t b x * w).sum = (ls.map fun x => val cap r w x * b).sum := by
      congr 1
      refine List.map_congr_left fun x _ => ?_
      unfold val
      rw [hs x]
      split
      · rw [Int.mul_assoc, Int.mul_comm x.2, ← Int.mul_assoc, ← e, Int.mul_assoc, Int.mul_comm b, ← Int.mul_assoc]
      · rw [Int.mul_assoc, Int.mul_comm b, ← Int.mul_assoc]
    rw [sum_mulr, sum_mulr, h.sum] at h1
    have h2 : total * w * b = total * b * w := by rw [Int.mul_assoc, Int.mul_comm w, ← Int.mul_assoc]
    rw [h2] at h1
    exact Int.eq_of_mul_eq_mul_right (by omega) h1
  · obtain ⟨x, hx, fx⟩ := h.fr
    exact ⟨x, hx, by rw [← hs x]; exact fx⟩
theorem lims_id {ls : List Pr} (h : ∀ x ∈ ls, 0 < x.2) : lims ls = ls := by
  unfold lims
  conv => rhs; rw [← List.map_id ls]
  refine List.map_congr_left fun x hx => ?_
  unfold lims1
  rw [if_pos (h x hx)]
  rfl
theorem wt_one (ls : List Pr) : ls.map (wt ((1 : Nat) : Int)) = ls := by
  conv => rhs; rw [← List.map_id ls]
  refine List.map_congr_left fun x _ => ?_
  show (x.1, x.2 * 1) = x
  rw [Int.mul_one]
theorem mul_bd {a b A B : Int} (h0 : 0 ≤ a) (h1 : a ≤ A) (h2 : 0 ≤ b) (h3 : b ≤ B) : 0 ≤ a * b ∧ a * b ≤ A * B :=
  ⟨Int.mul_nonneg h0 h2, Int.mul_le_mul h1 h3 h2 (Int.le_trans h0 h1)⟩
def sc (b : Int) (x : Pr) : Pr := (some (lim x * b), x.2)
theorem sc_above {t b : Int} {x : Pr} (hk : x.1 ≠ none) (h0 : 0 < x.2) : above t (sc b x) = free true t b x := by
  obtain ⟨c, w⟩ := x
  cases c with
  | none => exact absurd rfl hk
  | some c =>
    show (decide (0 < w) && decide (w * t < c * b)) = (decide (0 < w) && !decide (c * b ≤ t * w))
    rw [Int.mul_comm w t]
    congr 1
    by_cases h : c * b ≤ t * w
    · rw [decide_eq_true h, decide_eq_false (by omega)]
      rfl
    · rw [decide_eq_false h, decide_eq_true (by omega)]
      rfl
theorem sc_fnd {t b : Int} {x : Pr} (hk : x.1 ≠ none) (h0 : 0 < x.2) : fnd t (sc b x) = val true t b x := by
  unfold val
  rw [← sc_above hk h0]
  show (if x.2 * t < lim x * b then x.2 * t else lim x * b) = if (decide (0 < x.2) && decide (x.2 * t < lim x * b)) = true then t * x.2 else lim x * b
  rw [decide_eq_true h0, Bool.true_and]
  by_cases h : x.2 * t < lim x * b
  · rw [if_pos h, if_pos (decide_eq_true h), Int.mul_comm]
  · rw [if_neg h, if_neg (by rw [decide_eq_false h]; decide)]
theorem sc_sum {total : Int} {ls : List Pr} {t b : Int} (h : Val true total ls t b) (hk : ∀ x ∈ ls, x.1 ≠ none ∧ 0 < x.2) : ((ls.map (sc b)).map (fnd t)).sum = total * b := by
  rw [← h.sum, List.map_map]
  congr 1
  exact List.map_congr_left fun x hx => sc_fnd (hk x hx).1 (hk x hx).2
theorem sc_both {t b : Int} (x : Pr) : fndF t (sc b x) + fnd t (sc b x) = lim x * b + t * x.2 := by
  show (if x.2 * t > lim x * b then x.2 * t else lim x * b) + (if x.2 * t < lim x * b then x.2 * t else lim x * b) = _
  rw [Int.mul_comm t]
  split <;> split <;> omega
theorem sum_add (f g : Pr → Int) : ∀ ls : List Pr, (ls.map fun x => f x + g x).sum = (ls.map f).sum + (ls.map g).sum
  | [] => rfl
  | x :: r => by
    rw [List.map_cons, List.map_cons, List.map_cons, List.sum_cons, List.sum_cons, List.sum_cons, sum_add f g r]
    omega
theorem sc_rest {total : Int} {ls : List Pr} {t b : Int} (h : Val true total ls t b) (hk : ∀ x ∈ ls, x.1 ≠ none ∧ 0 < x.2) : ((ls.map (sc b)).map (fndF t)).sum = (ls.map fun x => lim x * b).sum + (ls.map fun x => t * x.2).sum - total * b := by
  have h1 := sc_sum h hk
  have h2 : (ls.map fun x => fndF t (sc b x) + fnd t (sc b x)).sum = (ls.map fun x => lim x * b + t * x.2).sum := by
    congr 1
    exact List.map_congr_left fun x _ => sc_both x
  rw [sum_add, sum_add] at h2
  rw [List.map_map] at h1 ⊢
  have h3 : ((ls.map (fnd t ∘ sc b)).sum) = (ls.map fun x => fnd t (sc b x)).sum := rfl
  have h4 : ((ls.map (fndF t ∘ sc b)).sum) = (ls.map fun x => fndF t (sc b x)).sum := rfl
  omega
theorem low_le {room W : Int} {t b : Nat} (h : low room W = ((t : Int), (b : Int))) (hr : 0 ≤ room) (hw : 0 < W) : (t : Int) ≤ room ∧ (b : Int) ≤ W := by
  unfold low at h
  have h1 := congrArg Prod.fst h
  have h2 := congrArg Prod.snd h
  simp only at h1 h2
  have a1 := Nat.div_le_self room.toNat (Nat.gcd room.toNat W.toNat)
  have a2 := Nat.div_le_self W.toNat (Nat.gcd room.toNat W.toNat)
  omega

/-! ### parts by a level in lowest terms -/
theorem div_same {room W t b : Int} (hw : 0 < W) (hb : 0 < b) (e : room * b = t * W) (c : Int) : room * c / W = t * c / b := by
  rw [← Int.mul_ediv_mul_of_pos_left (room * c) W hb, ← Int.mul_ediv_mul_of_pos_left (t * c) b hw]
  have h1 : room * c * b = t * c * W := by
    rw [Int.mul_assoc, Int.mul_comm c, ← Int.mul_assoc, e, Int.mul_assoc, Int.mul_comm W, ← Int.mul_assoc]
  rw [h1, Int.mul_comm W b]
theorem runP_same {room W t b : Int} (hw : 0 < W) (hb : 0 < b) (e : room * b = t * W) (f g : Pr → Bool) : ∀ (ls : List Pr) (cum : Int), (∀ x, f x = g x) → runP room W f cum ls = runP t b g cum ls
  | [], _, _ => rfl
  | x :: r, cum, h => by
    unfold runP
    rw [h x, div_same hw hb e, div_same hw hb e, runP_same hw hb e f g r _ h, runP_same hw hb e f g r _ h]
theorem runP_len (t b : Int) (f : Pr → Bool) : ∀ (ls : List Pr) (cum : Int), (runP t b f cum ls).length = ls.length
  | [], _ => rfl
  | x :: r, cum => by
    unfold runP
    split
    · rw [List.length_cons, List.length_cons, runP_len t b f r]
    · rw [List.length_cons, List.length_cons, runP_len t b f r]
theorem runP_at (t b : Int) (f : Pr → Bool) : ∀ (ls : List Pr) (cum : Int) (i : Nat) (x : Pr), ls[i]? = some x → (runP t b f cum ls)[i]? = some (if f x = true then t * (cum + sumW ((ls.take i).filter f) + x.2) / b - t * (cum + sumW ((ls.take i).filter f)) / b else lim x)
  | [], _, _, _, h => by simp at h
  | y :: r, cum, 0, x, h => by
    cases h
    unfold runP
    have z : sumW [] = 0 := rfl
    cases hf : f y with
    | true => simp [hf, z]
    | false => simp [hf]
  | y :: r, cum, i + 1, x, h => by
    rw [List.getElem?_cons_succ] at h
    unfold runP
    cases hf : f y with
    | true =>
      rw [if_pos rfl, List.getElem?_cons_succ, runP_at t b f r _ i x h, List.take_succ_cons, List.filter_cons_of_pos hf]
      have : sumW (y :: (r.take i).filter f) = y.2 + sumW ((r.take i).filter f) := rfl
      rw [this, ← Int.add_assoc]
    | false =>
      rw [if_neg (by decide), List.getElem?_cons_succ, runP_at t b f r _ i x h, List.take_succ_cons, List.filter_cons_of_neg (by rw [hf]; decide)]
theorem sumW_take {ls : List Pr} {f : Pr → Bool} {i : Nat} {x : Pr} (h : ls[i]? = some x) : sumW ((ls.take (i + 1)).filter f) = sumW ((ls.take i).filter f) + (if f x = true then x.2 else 0) := by
  rw [List.take_add_one, h, List.filter_append]
  unfold sumW
  rw [List.map_append, List.sum_append]
  cases hf : f x <;> simp [List.filter_cons, hf]
theorem runP_sum (t b : Int) (f : Pr → Bool) : ∀ (ls : List Pr) (cum : Int), (runP t b f cum ls).sum = t * (cum + sumW (ls.filter f)) / b - t * cum / b + sumL (ls.filter fun x => !f x)
  | [], cum => by
    show (0 : Int) = t * (cum + 0) / b - t * cum / b + 0
    simp
  | x :: r, cum => by
    unfold runP
    cases hf : f x with
    | true =>
      rw [if_pos rfl, List.sum_cons, runP_sum t b f r, List.filter_cons_of_pos hf, List.filter_cons_of_neg (by rw [hf]; decide)]
      have h1 : sumW (x :: r.filter f) = x.2 + sumW (r.filter f) := rfl
      have h2 : cum + (x.2 + sumW (r.filter f)) = cum + x.2 + sumW (r.filter f) := by omega
      rw [h1, h2]
      omega
    | false =>
      rw [if_neg (by decide), List.sum_cons, runP_sum t b f r, List.filter_cons_of_neg (by rw [hf]; decide), List.filter_cons_of_pos (by rw [hf]; rfl)]
      have : sumL (x :: r.filter fun x => !f x) = lim x + sumL (r.filter fun x => !f x) := rfl
      rw [this]
      omega
theorem Fix.sum {cap : Bool} {total : Int} {ls : List Pr} {room W : Int} (h : Fix cap total ls room W) : (runP room W (free cap room W) 0 ls).sum = total := by
  rw [runP_sum, ← h.eW, Int.zero_add, Int.mul_zero, Int.zero_ediv, Int.mul_ediv_cancel _ (by have := h.w0; omega)]
  have e := h.eR
  generalize sumL (ls.filter fun x => !free cap room W x) = z at e ⊢
  omega
theorem part_ge {t b c w l : Int} (hb : 0 < b) (h : l * b ≤ t * w) : l ≤ t * (c + w) / b - t * c / b := by
  have h1 : (t * c + l * b) / b ≤ t * (c + w) / b := Int.ediv_le_ediv hb (by rw [Int.mul_add]; omega)
  rw [Int.add_mul_ediv_right _ _ (by omega)] at h1
  omega
theorem val_max {t b : Int} {x : Pr} (hb : 0 < b) (h0 : 0 ≤ x.2) (hl : 0 ≤ lim x) : val false t b x = if t * x.2 > lim x * b then t * x.2 else lim x * b := by
  unfold val free
  by_cases h : t * x.2 ≤ lim x * b
  · rw [bnd_flo_of h, if_neg (by simp), if_neg (by omega)]
  · have hb2 : bnd false x t b = false := by
      cases e : bnd false x t b with
      | false => rfl
      | true => exact absurd (bnd_flo e) h
    have hx : 0 < x.2 := by
      rcases Int.lt_or_le 0 x.2 with z | z
      · exact z
      · exfalso
        have : x.2 = 0 := by omega
        rw [this, Int.mul_zero] at h
        exact h (Int.mul_nonneg hl (Int.le_of_lt hb))
    rw [hb2, decide_eq_true hx, if_pos (show (true && !false) = true from rfl), if_pos (by omega)]
theorem free_flo {t b : Int} {x : Pr} : free false t b x = (decide (0 < x.2) && decide (lim x * b < t * x.2)) := by
  unfold free
  congr 1
  show (!decide (t * x.2 ≤ lim x * b)) = _
  by_cases h : t * x.2 ≤ lim x * b
  · rw [decide_eq_true h, decide_eq_false (by omega)]
    rfl
  · rw [decide_eq_false h, decide_eq_true (by omega)]
    rfl

/-! ### lists of numbers as data -/
def datI (ns : List Int) : PyData := .list (ns.map PyData.int)
theorem dpI_all {K : PySem.W.Frag} {H : Hp} : ∀ ns : List Int, DpAll K H (ns.map V.int) (ns.map PyData.int)
  | [] => .nil
  | n :: r => .cons (.int n) (dpI_all r)
theorem dp_ints {K : PySem.W.Frag} {H : Hp} {a : Addr} {ns : List Int} (h : SqL K H a (ns.map V.int)) : Dp K H (.ref a) (datI ns) := .lst h (dpI_all ns)
theorem can_ints : ∀ ns : List Int, PyData.canLayAll0 (ns.map PyData.int) = true
  | [] => rfl
  | n :: r => by
    show (true && PyData.canLayAll0 (r.map PyData.int)) = true
    rw [can_ints r]
    rfl
theorem depth_ints : ∀ ns : List Int, PyData.depthAll (ns.map PyData.int) = 0
  | [] => rfl
  | n :: r => by
    show max 0 (PyData.depthAll (r.map PyData.int)) = 0
    rw [depth_ints r]
    rfl
theorem shaped_ints (ns : List Int) : SeqAt.shaped (datI ns) = true := by
  unfold SeqAt.shaped datI
  rw [Bool.and_eq_true]
  refine ⟨can_ints ns, ?_⟩
  show decide (PyData.depthAll (ns.map PyData.int) + 1 ≤ 64) = true
  rw [depth_ints]
  rfl
theorem eqv_datI : ∀ ns ms : List Int, PyData.eqv (datI ns) (datI ms) = decide (ns = ms) := by
  have key : ∀ ns ms : List Int, PyData.eqvAll (ns.map PyData.int) (ms.map PyData.int) = decide (ns = ms) := by
    intro ns
    induction ns with
    | nil =>
      intro ms
      cases ms with
      | nil => rfl
      | cons m r => simp [PyData.eqvAll]
    | cons n r ih =>
      intro ms
      cases ms with
      | nil => simp [PyData.eqvAll]
      | cons m q =>
        show (PyData.eqv (.int n) (.int m) && PyData.eqvAll (r.map PyData.int) (q.map PyData.int)) = _
        rw [ih q]
        show ((n == m) && decide (r = q)) = _
        by_cases h1 : n = m
        · by_cases h2 : r = q
          · simp [h1, h2]
          · simp [h1, h2]
        · simp [h1]
  intro ns ms
  exact key ns ms

/-! ### draws -/
theorem pick {ns : List Int} {r : Int} (h0 : 0 ≤ r) (h1 : r < (ns.length : Int)) (Pm : Int → Prop) (h : ∀ n ∈ ns, Pm n) : ∃ m : Int, atI (ns.map V.int) r = some (.int m) ∧ Pm m := by
  obtain ⟨v, hv, ha⟩ := atI_mem (xs := ns.map V.int) (i := r) h0 (by rw [List.length_map]; exact h1)
  obtain ⟨m, hm, rfl⟩ := List.mem_map.mp hv
  exact ⟨m, ha, h m hm⟩
theorem Off.same {p : Addr} {H H' : Hp} (s : Same H H') : Off p H H' := .of s
theorem Off.back {p D : Addr} {H H' : Hp} (o : Off p H H') (n : H' D = none) (h : D ≠ p) : H D = none := by
  cases e : H D with
  | none => rfl
  | some x =>
    rw [o _ _ e h] at n
    cases n
theorem lcD {β : Type} {J : It} {n : Nat} {G : Hp → Prop} {Y : Nat → Hp → V → Hp → Prop} (w : Walk J n G Y) {te : TE} {vs : List Nat} {σ : L2.St} {H1 : Hp} {D p : Addr} {j : Nat} {Qd : Hp → Prop} (e2 : β → V) (Yv : Nat → V → Prop) (hY : ∀ i H x H', Y i H x H' → H' = H ∧ Yv i x) (R : Nat → β → Prop)
    (hS : Src H1 p) (nD : H1 D = none) (hz : n ≤ 40000) (hG : ∀ H, Off p H1 H → G H)
    (hs : ∀ i x H (A : V → Hp → Prop), i < n → Yv i x → Src H p → Off p H1 H → (∀ z H', R i z → Src H' p → Off p H H' → A (e2 z) H') → wipe ((wipe σ vs).set j (some x)) vs = wipe σ vs ∧ te ((wipe σ vs).set j (some x)) H A)
    (hd : ∀ H (zs : List β), D ≠ p → zs.length = n → (∀ i z, zs[i]? = some z → R i z) → H D = some (.lst (zs.map e2)) → Src H p → Off p H1 H → Qd H) :
    ∃ W : Nat → Nat → Hp → Prop, (∃ m, W 0 m (upd H1 D (.lst []))) ∧ ∀ i m H, W i m H →
      (J.stop i H ∧ Qd H) ∨ (J.go i H ∧ ∃ Nx : Hp → Prop, (∀ H', Nx H' → ∃ m', m' < m ∧ W (i + 1) m' H') ∧ ∀ x H', J.yld i H x H' → gName j x (wipe σ vs) H' fun σ2 H2 => wipe σ2 vs = wipe σ vs ∧ tYes σ2 H2 fun b H3 =>
        if b = true then te σ2 H3 fun y H4 => ∃ acc, H4 D = some (.lst acc) ∧ acc.length < sizeLine ∧ Nx (upd H4 D (.lst (acc ++ [y]))) else Nx H3) := by
  have hDp := hS.ne_new nD
  refine lc_it w (fun i H => ∃ zs : List β, zs.length = i ∧ (∀ i z, zs[i]? = some z → R i z) ∧ H D = some (.lst (zs.map e2)) ∧ Src H p ∧ Off p H1 H) ⟨[], rfl, fun i z h => by simp at h, upd_same, hS.keep nD, off_new nD⟩ (fun i H _ h => by obtain ⟨_, _, _, _, _, o⟩ := h; exact hG H o) ?_ ?_
  · rintro i x H H' hi ⟨zs, hl, hR, eD, sH, o⟩ hy
    obtain ⟨rfl, yv⟩ := hY i H x H' hy
    obtain ⟨h1, h2⟩ := hs i x H' (fun y H4 => ∃ acc, H4 D = some (.lst acc) ∧ acc.length < sizeLine ∧ ∃ zs : List β, zs.length = i + 1 ∧ (∀ i z, zs[i]? = some z → R i z) ∧ (upd H4 D (.lst (acc ++ [y]))) D = some (.lst (zs.map e2)) ∧ Src (upd H4 D (.lst (acc ++ [y]))) p ∧ Off p H1 (upd H4 D (.lst (acc ++ [y])))) hi yv sH o (fun z H4 rz s4 o4 => by
      refine ⟨_, o4 _ _ eD hDp, ?_, zs ++ [z], ?_, ?_, ?_, ?_, ?_⟩
      · rw [List.length_map, hl]
        exact big (by omega)
      · rw [List.length_append, hl]
        rfl
      · intro k y hk
        rcases Nat.lt_or_ge k zs.length with hlt | hge
        · rw [List.getElem?_append_left hlt] at hk
          exact hR k y hk
        · rw [List.getElem?_append_right hge] at hk
          have hk0 : k - zs.length = 0 := by
            have := (List.getElem?_eq_some_iff.mp hk).1
            simp at this
            omega
          rw [hk0] at hk
          cases hk
          have : k = i := by omega
          rw [this]
          exact rz
      · rw [upd_same, List.map_append]
        rfl
      · obtain ⟨a, b, c, e⟩ := s4
        exact ⟨a, b, c, by rw [upd_ne hDp.symm]; exact e⟩
      · intro b x hb hne
        rw [upd_ne (ne_of_none hb nD)]
        exact o4 _ _ (o _ _ hb hne) hne)
    exact ⟨h1, yes_if h2⟩
  · rintro H ⟨zs, hl, hR, eD, sH, o⟩
    exact hd H zs hDp hl hR eD sH o
/-! ### levels and lists as data -/
def dLv : Option (Int × Int) → PyData
  | none => .none
  | some (a, b) => .tuple [.int a, .int b]
def datT (lv : Option (Int × Int)) (ps : List Int) : PyData := .tuple [dLv lv, datI ps]
theorem dp_lv {K : PySem.W.Frag} {H : Hp} {v : V} {lv : Option (Int × Int)} (h : LvAt H v lv) : Dp K H v (dLv lv) := by
  cases lv with
  | none =>
    rw [show v = .non from h]
    exact .non
  | some ab =>
    obtain ⟨a, b⟩ := ab
    obtain ⟨q, rfl, e⟩ := h
    exact .tup (.of e) (.cons (.int a) (.cons (.int b) .nil))
theorem dp_T {K : PySem.W.Frag} {H : Hp} {t p : Addr} {lvv : V} {lv : Option (Int × Int)} {ps : List Int} (et : H t = some (.tup [lvv, .ref p])) (h : LvAt H lvv lv) (ep : H p = some (.lst (ps.map V.int))) : Dp K H (.ref t) (datT lv ps) :=
  .tup (.of et) (.cons (dp_lv h) (.cons (dp_ints (.of ep)) .nil))
theorem shaped_T (lv : Option (Int × Int)) (ps : List Int) : SeqAt.shaped (datT lv ps) = true := by
  unfold SeqAt.shaped datT
  rw [Bool.and_eq_true]
  constructor
  · show (PyData.canLay0 (dLv lv) && (PyData.canLay0 (datI ps) && true)) = true
    have h1 : PyData.canLay0 (dLv lv) = true := by
      cases lv with
      | none => rfl
      | some ab => rfl
    have h2 : PyData.canLay0 (datI ps) = true := can_ints ps
    rw [h1, h2]
    rfl
  · have h2 : PyData.depth (datI ps) = 1 := by
      show PyData.depthAll (ps.map PyData.int) + 1 = 1
      rw [depth_ints]
    cases lv with
    | none =>
      show decide (max 0 (max (PyData.depth (datI ps)) 0) + 1 ≤ 64) = true
      rw [h2]
      rfl
    | some ab =>
      show decide (max 1 (max (PyData.depth (datI ps)) 0) + 1 ≤ 64) = true
      rw [h2]
      rfl
theorem eqv_T (lv lv' : Option (Int × Int)) (ps ps' : List Int) : PyData.eqv (datT lv ps) (datT lv' ps') = decide (lv = lv' ∧ ps = ps') := by
  have h1 : PyData.eqv (dLv lv) (dLv lv') = decide (lv = lv') := by
    cases lv with
    | none =>
      cases lv' with
      | none => rfl
      | some ab => rfl
    | some ab =>
      cases lv' with
      | none => rfl
      | some cd =>
        obtain ⟨a, b⟩ := ab
        obtain ⟨c, d⟩ := cd
        show ((a == c) && ((b == d) && true)) = _
        by_cases e1 : a = c
        · by_cases e2 : b = d
          · simp [e1, e2]
          · simp [e1, e2]
        · simp [e1]
  show (PyData.eqv (dLv lv) (dLv lv') && (PyData.eqv (datI ps) (datI ps') && true)) = _
  rw [h1, eqv_datI]
  by_cases e1 : lv = lv'
  · by_cases e2 : ps = ps'
    · simp [e1, e2]
    · simp [e1, e2]
  · simp [e1]
theorem lvSame {H H' : Hp} {v : V} {lv : Option (Int × Int)} (s : Same H H') (h : LvAt H v lv) : LvAt H' v lv := by
  cases lv with
  | none => exact h
  | some ab =>
    obtain ⟨q, e, g⟩ := h
    exact ⟨q, e, s _ _ g⟩
/-- caps as data -/
def datO (os : List (Option Int)) : PyData := .list (os.map fun o => match o with | none => .none | some c => .int c)
theorem dpO_all {K : PySem.W.Frag} {H : Hp} : ∀ os : List (Option Int), DpAll K H (os.map ov) (os.map fun o => match o with | none => .none | some c => .int c)
  | [] => .nil
  | none :: r => .cons .non (dpO_all r)
  | some c :: r => .cons (.int c) (dpO_all r)
theorem dp_O {K : PySem.W.Frag} {H : Hp} {a : Addr} {os : List (Option Int)} (h : H a = some (.lst (os.map ov))) : Dp K H (.ref a) (datO os) := .lst (.of h) (dpO_all os)
theorem can_O : ∀ os : List (Option Int), PyData.canLayAll0 (os.map fun o => match o with | none => PyData.none | some c => .int c) = true
  | [] => rfl
  | none :: r => by
    show (true && _) = true
    rw [Bool.true_and]
    exact can_O r
  | some c :: r => by
    show (true && _) = true
    rw [Bool.true_and]
    exact can_O r
theorem depth_O : ∀ os : List (Option Int), PyData.depthAll (os.map fun o => match o with | none => PyData.none | some c => .int c) = 0
  | [] => rfl
  | none :: r => by
    show max 0 _ = 0
    rw [depth_O r]
    rfl
  | some c :: r => by
    show max 0 _ = 0
    rw [depth_O r]
    rfl
theorem shaped_O (os : List (Option Int)) : SeqAt.shaped (datO os) = true := by
  unfold SeqAt.shaped datO
  rw [Bool.and_eq_true]
  refine ⟨can_O os, ?_⟩
  show decide (PyData.depthAll _ + 1 ≤ 64) = true
  rw [depth_O]
  rfl
theorem eqv_O_nil (os : List (Option Int)) : PyData.eqv (datO os) (datI []) = decide (os = []) := by
  cases os with
  | nil => rfl
  | cons o r => cases o <;> rfl

/-! ### the last of a list -/
theorem at_last {ns : List Int} (h : ns ≠ []) : ∃ m ∈ ns, atI (ns.map V.int) (-1) = some (.int m) := by
  have hl : 0 < ns.length := List.length_pos_iff.mpr h
  refine ⟨ns[ns.length - 1], List.getElem_mem _, ?_⟩
  unfold atI ixN
  rw [List.length_map, if_neg (by decide), if_pos (by omega), show (-1 + (ns.length : Int)).toNat = ns.length - 1 by omega]
  show (ns.map V.int)[ns.length - 1]? = _
  rw [List.getElem?_map, List.getElem?_eq_getElem (by omega)]
  rfl

/-! ### lists made of lists -/
theorem fm_zip_at {α β γ δ : Type} (f : α → β) (g : α → γ) (F : β → γ → Option δ) : ∀ l : List α, (((l.map f).zip (l.map g)).filterMap fun p => F p.1 p.2) = l.filterMap fun x => F (f x) (g x)
  | [] => rfl
  | x :: r => by
    rw [List.map_cons, List.map_cons, List.zip_cons_cons, List.filterMap_cons, List.filterMap_cons, fm_zip_at f g F r]
theorem fm_opt {α β : Type} (p : α → Bool) (f : α → β) : ∀ l : List α, (l.filterMap fun x => if p x = true then some (f x) else none) = (l.filter p).map f
  | [] => rfl
  | x :: r => by
    rw [List.filterMap_cons, fm_opt p f r, List.filter_cons]
    cases p x <;> rfl
theorem filter_nil_any {α : Type} (p : α → Bool) : ∀ l : List α, (l.filter p = []) ↔ l.any p = false := fun l => by
  rw [List.filter_eq_nil_iff, List.any_eq_false]
theorem rep_flat (n : Nat) (v : V) : (List.replicate n [v]).flatten = List.replicate n v := by
  induction n with
  | zero => rfl
  | succ n ih =>
    rw [List.replicate_succ, List.flatten_cons, ih]
    rfl

theorem zip_fst_map {α β γ : Type} (f : α → γ) : ∀ (as : List α) (bs : List β), as.length = bs.length → ((as.zip bs).map fun x => f x.1) = as.map f
  | [], [], _ => rfl
  | a :: r, b :: q, h => by
    rw [List.zip_cons_cons, List.map_cons, List.map_cons, zip_fst_map f r q (by simpa using h)]
theorem zip_snd_map {α β γ : Type} (f : β → γ) : ∀ (as : List α) (bs : List β), as.length = bs.length → ((as.zip bs).map fun x => f x.2) = bs.map f
  | [], [], _ => rfl
  | a :: r, b :: q, h => by
    rw [List.zip_cons_cons, List.map_cons, List.map_cons, zip_snd_map f r q (by simpa using h)]

/-! ### the greatest shared divisor -/
def spShared : Sp := fun vs H Q _ => ∃ a b : Nat, vs = [.int (a : Int), .int (b : Int)] ∧ Q (.int (Nat.gcd a b : Nat)) H
section
variable {P : Program} {w : World} {K : PySem.W.Frag} {mg : Str → Option Value} {base : Heap}
theorem ok_shared (T : Txt K mg) : Ok P w K mg base CX0 "_law_shared" s_shared 1 ["_law_one", "_law_other"] spShared := by
  refine T.h_shared.ok sc_shared (fun vs H Q E h => ?_) (fun f cdv A outer s H vs Q E hr h => ?_)
  · obtain ⟨_, _, rfl, _⟩ := h; rfl
  obtain ⟨a, b, rfl, q⟩ := h
  refine ⟨_, (pss_cons (ps_while PassesOwn.never (pt_cmpR op_ne (pv 1) pe_int (nomark _))
      (pss_one (ps_par (i := 0) (j := 1) (by rfl) sc_shared.nd rfl rfl (by decide) rfl rfl (pa_cons (pv 1) (pa_cons (pe_op op_mod (pv 0) (pv 1)) pa_nil)) (by rfl))))
      (pss_one (ps_ret (pv 0)))), ?_⟩
  refine ⟨fun m σ H' => ∃ d r : Nat, σ = [some (.int (d : Int)), some (.int (r : Int))] ∧ Nat.gcd d r = Nat.gcd a b ∧ m = r ∧ H' = H, ⟨b, a, b, rfl, rfl, rfl, rfl⟩, ?_⟩
  rintro m σ H' ⟨d, r, rfl, hg, rfl, rfl⟩
  refine ⟨_, rfl, rfl, _, rfl, ite2 (fun e => ?_) (fun e => ?_)⟩
  · have m0 : 0 < m := by
      rcases Nat.eq_zero_or_pos m with z | z
      · exfalso
        rw [z, show (decide (V.int ((0 : Nat) : Int) = V.int 0)) = true from decide_eq_true rfl] at e
        cases e
      · exact z
    refine ⟨fun σ2 H2 => ∃ m', m' < m ∧ ∃ d r : Nat, σ2 = [some (.int (d : Int)), some (.int (r : Int))] ∧ Nat.gcd d r = Nat.gcd a b ∧ m' = r ∧ H2 = H', fun _ _ h => h, ?_⟩
    have e1 : (0 : Int) < (m : Int) := by omega
    refine ⟨_, rfl, _, rfl, _, rfl, _, _, rfl, rfl, e1, _, _, rfl, ?_⟩
    refine ⟨d % m, Nat.mod_lt d m0, m, d % m, ?_, ?_, rfl, rfl⟩
    · rw [Int.natCast_emod]
      rfl
    · rw [← hg, Nat.gcd_comm d m, Nat.gcd_rec m d, Nat.gcd_comm]
  · have hr0 : m = 0 := by
      rcases Nat.eq_zero_or_pos m with z | z
      · exact z
      · exfalso
        apply e
        rw [decide_eq_false fun z2 => by have := V.int.inj z2; omega]
        rfl
    subst hr0
    rw [Nat.gcd_zero_right] at hg
    rw [← hg] at q
    exact ⟨_, rfl, q⟩
end

/-! ### numbers drawn, and kinds -/
theorem bl_yes {p : Prop} [Decidable p] (h : p) : V.bl (decide p) = V.bl true := by rw [decide_eq_true h]
theorem bl_no {p : Prop} [Decidable p] (h : ¬ p) : V.bl (decide p) = V.bl false := by rw [decide_eq_false h]
def spUpto : Sp := fun vs H Q _ => ∃ (p : Addr) (far : Int), vs = [.ref p, .int far] ∧ Src H p ∧ 0 < far ∧ far < 2 ^ 90 ∧ ∀ (r : Int) H', 0 ≤ r → r < far → Src H' p → Off p H H' → Q (.int r) H'
def spSome : Sp := fun vs H Q _ => ∃ (p na : Addr) (far many : Int) (ws : List Int), vs = [.ref p, .int far, .ref na, .int many] ∧ Src H p ∧ na ≠ p ∧ H na = some (.lst (ws.map V.int)) ∧ (ws.length : Int) = many ∧ 0 < far ∧ far < 2 ^ 60 ∧ ws.length ≤ 1000 ∧
  ∀ (b : Addr) (bs : List Int) H', H b = none → b ≠ p → (bs.length : Int) = many → (∀ n ∈ bs, 0 ≤ n ∧ n ≤ far) → H' b = some (.lst (bs.map V.int)) → Src H' p → Off p H H' → Q (.ref b) H'
def spWeights : Sp := fun vs H Q _ => ∃ (p : Addr) (many : Int), vs = [.ref p, .int many] ∧ Src H p ∧ 0 ≤ many ∧ many ≤ 1000 ∧
  ∀ (b : Addr) (bs : List Int) H', H b = none → b ≠ p → (bs.length : Int) = many → (∀ n ∈ bs, 0 ≤ n ∧ n ≤ 1000000000000) → H' b = some (.lst (bs.map V.int)) → Src H' p → Off p H H' → Q (.ref b) H'
def spMany : Sp := fun vs H Q _ => ∃ p : Addr, vs = [.ref p] ∧ Src H p ∧ ∀ (r : Int) H', 0 ≤ r → r ≤ 60 → Src H' p → Off p H H' → Q (.int r) H'
def spTotal : Sp := fun vs H Q _ => ∃ (p : Addr) (most : Int), vs = [.ref p, .int most] ∧ Src H p ∧ 0 ≤ most ∧ most < 2 ^ 80 ∧ ∀ (n : Int) H', 0 ≤ n → n < 1000000000000 → Src H' p → Off p H H' → Q (.int n) H'
def spKinds : Sp := fun vs H Q _ => ∃ (t p : Addr) (lvv : V) (lv : Option (Int × Int)) (parts : List Int), vs = [.ref t, .int (parts.length : Int)] ∧ H t = some (.tup [lvv, .ref p]) ∧ LvAt H lvv lv ∧ H p = some (.lst (parts.map V.int)) ∧ parts.length ≤ 4000 ∧ (∀ x, lv = some x → ∃ a b : Nat, x = ((a : Int), (b : Int)) ∧ 0 < b ∧ Nat.gcd a b = 1) ∧ ∀ H', Same H H' → Q (.bl true) H'
/-- two lists of numbers as data -/
def datLL (as bs : List Int) : PyData := .list [datI as, datI bs]
theorem dp_LL {K : PySem.W.Frag} {H : Hp} {l a b : Addr} {as bs : List Int} (h : H l = some (.lst [.ref a, .ref b])) (ha : H a = some (.lst (as.map V.int))) (hb : H b = some (.lst (bs.map V.int))) : Dp K H (.ref l) (datLL as bs) :=
  .lst (.of h) (.cons (dp_ints (.of ha)) (.cons (dp_ints (.of hb)) .nil))
theorem shaped_LL (as bs : List Int) : SeqAt.shaped (datLL as bs) = true := by
  unfold SeqAt.shaped datLL
  rw [Bool.and_eq_true]
  constructor
  · show (PyData.canLay0 (datI as) && (PyData.canLay0 (datI bs) && true)) = true
    have h1 : PyData.canLay0 (datI as) = true := can_ints as
    have h2 : PyData.canLay0 (datI bs) = true := can_ints bs
    rw [h1, h2]
    rfl
  · have h1 : PyData.depth (datI as) = 1 := by
      show PyData.depthAll (as.map PyData.int) + 1 = 1
      rw [depth_ints]
    have h2 : PyData.depth (datI bs) = 1 := by
      show PyData.depthAll (bs.map PyData.int) + 1 = 1
      rw [depth_ints]
    show decide (max (PyData.depth (datI as)) (max (PyData.depth (datI bs)) 0) + 1 ≤ 64) = true
    rw [h1, h2]
    rfl
theorem eqv_LL (as bs : List Int) : PyData.eqv (datLL as bs) (datLL as bs) = true := by
  show (PyData.eqv (datI as) (datI as) && (PyData.eqv (datI bs) (datI bs) && true)) = true
  rw [eqv_datI, eqv_datI, decide_eq_true rfl, decide_eq_true rfl]
  rfl
section
variable {P : Program} {w : World} {K : PySem.W.Frag} {mg : Str → Option Value} {base : Heap}
theorem ok_upto (T : Txt K mg) : Ok P w K mg base CX0 "_law_upto" s_upto 3 ["_law_source_here", "_law_far"] spUpto := by
  have O_next := ok_next (P := P) (w := w) (base := base) T
  refine T.h_upto.ok sc_upto (fun vs H Q E h => ?_) (fun f cdv A outer s H vs Q E hr h => ?_)
  · obtain ⟨p, _, rfl, _⟩ := h; rfl
  obtain ⟨p, far, rfl, hs, f0, f1, q⟩ := h
  refine ⟨_, (pss_cons (ps_if (pt_cmpR op_gt (pv 1) (pe_op op_pow pe_int pe_int) (nomark _))
      (pss_one (ps_ret (pe_op op_mod (pe_op op_add (pe_op op_mul (callO O_next (hr.mono (by decide)) (by rfl) (pa_cons (pv 0) (pa_cons (pe_op op_pow pe_int pe_int) pa_nil))) (pe_op op_pow pe_int pe_int)) (callO O_next (hr.mono (by decide)) (by rfl) (pa_cons (pv 0) (pa_cons (pe_op op_pow pe_int pe_int) pa_nil)))) (pv 1))))
      pss_nil)
      (pss_one (ps_ret (callO O_next (hr.mono (by decide)) (by rfl) (pa_cons (pv 0) (pa_cons (pv 1) pa_nil)))))), ?_⟩
  refine ⟨_, rfl, _, _, rfl, rfl, ⟨by decide, by decide, by decide⟩, _, _, rfl, rfl, _, rfl, ite2 (fun e => ?_) (fun e => ?_)⟩
  · refine ⟨_, rfl, _, _, rfl, rfl, ⟨by decide, by decide, by decide⟩, p, _, rfl, by decide, by decide, hs, fun r1 H1 a1 b1 s1 o1 => ?_⟩
    have b1' : r1 < 1000000 := b1
    refine ⟨_, _, rfl, rfl, ⟨by decide, by decide, by decide⟩, _, _, rfl, rfl, .inl ⟨by omega, by omega⟩, ?_⟩
    refine ⟨_, rfl, _, _, rfl, rfl, ⟨by decide, by decide, by decide⟩, p, _, rfl, by decide, by decide, s1, fun r2 H2 a2 b2 s2 o2 => ?_⟩
    refine ⟨_, _, rfl, rfl, _, rfl, _, _, rfl, rfl, f0, ?_⟩
    exact q _ H2 (Int.emod_nonneg _ (by omega)) (Int.emod_lt_of_pos _ f0) s2 (o1.trans o2)
  · exact ⟨_, rfl, _, rfl, p, far, rfl, f0, by omega, hs, fun r H' r0 r1 s' o' => q r H' r0 r1 s' o'⟩
theorem ok_some (T : Txt K mg) : Ok P w K mg base CX0 "_law_some" s_some 4 ["_law_source_here", "_law_far", "_law_near", "_law_many_here"] spSome := by
  have O_next := ok_next (P := P) (w := w) (base := base) T
  have O_upto := ok_upto (P := P) (w := w) (base := base) T
  refine T.h_some.ok sc_some (fun vs H Q E h => ?_) (fun f cdv A outer s H vs Q E hr h => ?_)
  · obtain ⟨p, _, _, _, _, rfl, _⟩ := h; rfl
  obtain ⟨p, na, far, many, ws, rfl, hs, hnp, hna, wl, f0, f1, w1, q⟩ := h
  refine ⟨_, (pss_cons (ps_set (i := 4) sc_some.nd rfl (by first | exact Or.inl rfl | exact Or.inr rfl) (pe_lst pa_nil))
      (pss_cons (ps_set (i := 5) sc_some.nd rfl (by first | exact Or.inl rfl | exact Or.inr rfl) (callO O_next (hr.mono (by decide)) (by rfl) (pa_cons (pv 0) (pa_cons pe_int pa_nil))))
      (pss_cons (ps_for PassesOwn.never rfl (pi_range1 (by rfl) T.m_range (pa_cons (pv 3) pa_nil)) (pg_name (i := 6) sc_some.nd rfl (by first | exact Or.inl rfl | exact Or.inr rfl))
      (pss_cons (ps_set (i := 7) sc_some.nd rfl (by first | exact Or.inl rfl | exact Or.inr rfl) (callO O_next (hr.mono (by decide)) (by rfl) (pa_cons (pv 0) (pa_cons pe_int pa_nil))))
      (pss_cons (ps_set (i := 8) sc_some.nd rfl (by first | exact Or.inl rfl | exact Or.inr rfl) (callO O_upto (hr.mono (by decide)) (by rfl) (pa_cons (pv 0) (pa_cons (pv 1) pa_nil))))
      (Evl.pss_cut (ps_if (pt_cmpR op_eq (pv 7) pe_int (nomark _))
      (pss_one (ps_set (i := 8) sc_some.nd rfl (by first | exact Or.inl rfl | exact Or.inr rfl) pe_int))
      pss_nil)
      (Evl.pss_cut (ps_if (PW.pt (pw_and (pt_cmpR op_eq (pv 7) pe_int (nomark _)) (pw_and1 (pt_cmpR (op_neD hr.units) (pv 4) (pe_lst pa_nil) (nomark _)))))
      (pss_one (ps_set (i := 8) sc_some.nd rfl (by first | exact Or.inl rfl | exact Or.inr rfl) (pe_ix ix_list (pv 4) (pe_un un_neg pe_int) (fun _ _ => rfl))))
      pss_nil)
      (Evl.pss_cut (ps_if (pt_cmpR op_in_seq (pv 7) (pe_tup (pa_cons pe_int (pa_cons pe_int pa_nil))) (by rfl))
      (pss_one (ps_set (i := 8) sc_some.nd rfl (by first | exact Or.inl rfl | exact Or.inr rfl) (pe_callB (call_min2 rfl) (by rfl) T.m_min (by decide +kernel) (pa_cons (pv 1) (pa_cons (pe_callB (call_max2 rfl) (by rfl) T.m_max (by decide +kernel) (pa_cons pe_int (pa_cons (pe_op op_add (pe_op op_mul (pe_ix ix_list (pv 2) (pv 6) (fun _ _ => rfl)) (pv 5)) (pe_op op_mul (pv 7) (pe_op op_sub (callO O_next (hr.mono (by decide)) (by rfl) (pa_cons (pv 0) (pa_cons pe_int pa_nil))) pe_int))) pa_nil))) pa_nil)))))
      pss_nil)
      (pss_one (ps_expr (pe_bm PySem.F.plainAttrs_list PySem.F.slot_list_append PySem.F.type_list_append mt_append (pv 4) (pa_cons (pv 8) pa_nil))))))))))
      (pss_one (ps_ret (pv 4)))))), ?_⟩
  refine ⟨(by show 0 ≤ sizeLine; decide), fun S nS => ?_⟩
  have hSp := hs.ne_new nS
  refine ⟨_, rfl, p, 90, rfl, by decide, by decide, hs.keep nS, fun times H1 a1 b1 s1 o1 => ?_⟩
  have eS1 : H1 S = some (.lst (([] : List Int).map V.int)) := o1 _ _ upd_same hSp
  have nSn : na ≠ S := ne_of_none hna nS
  refine ⟨_, rfl, _, rfl, by omega, by omega, for_range (lo := 0) (n := many.toNat) (fun i σ H' => ∃ (v6 v7 v8 : Option V) (bs : List Int), σ = [some (.ref p), some (.int far), some (.ref na), some (.int many), some (.ref S), some (.int times), v6, v7, v8] ∧ H' S = some (.lst (bs.map V.int)) ∧ bs.length = i ∧ (∀ n ∈ bs, 0 ≤ n ∧ n ≤ far) ∧ Src H' p ∧ (∀ b o, H b = some o → b ≠ p → H' b = some o))
    ⟨none, none, none, [], rfl, eS1, rfl, (fun n hn => by cases hn), s1, fun b o h hbp => o1 _ _ (same_upd nS _ _ h) hbp⟩ ?_ ?_⟩
  · rintro i σ H' hi ⟨v6, v7, v8, bs, rfl, eS, el, hb, s2, o2⟩
    refine ⟨_, rfl, p, 6, rfl, by decide, by decide, s2, fun way H3 a3 b3 s3 o3 => ?_⟩
    refine ⟨_, rfl, _, rfl, p, far, rfl, s3, f0, by omega, fun one H4 a4 b4 s4 o4 => ?_⟩
    have eS4 := o4 _ _ (o3 _ _ eS hSp) hSp
    have hna4 := o4 _ _ (o3 _ _ (o2 _ _ hna hnp) hnp) hnp
    refine ⟨fun σ H'' => ∃ (one : Int), σ = [some (.ref p), some (.int far), some (.ref na), some (.int many), some (.ref S), some (.int times), some (.int (0 + (i : Int))), some (.int way), some (.int one)] ∧ 0 ≤ one ∧ one ≤ far ∧ H4 = H'', ?_, ?_⟩
    · refine ⟨_, rfl, rfl, _, rfl, ite2 (fun e => ?_) (fun e => ?_)⟩
      · exact ⟨0, rfl, by omega, by omega, rfl⟩
      · exact ⟨one, rfl, by omega, by omega, rfl⟩
    rintro σ H'' ⟨one', rfl, c1, c2, rfl⟩
    refine ⟨fun σ H'' => ∃ (one : Int), σ = [some (.ref p), some (.int far), some (.ref na), some (.int many), some (.ref S), some (.int times), some (.int (0 + (i : Int))), some (.int way), some (.int one)] ∧ 0 ≤ one ∧ one ≤ far ∧ Same H4 H'', ?_, ?_⟩
    · refine ⟨_, rfl, rfl, _, rfl, ite2 (fun e => ?_) (fun e => ?_)⟩
      · refine ⟨_, rfl, (by show 0 ≤ sizeLine; decide), fun l5 n5 => ?_⟩
        have s5 := same_upd (o := .lst []) n5
        refine ⟨datI bs, datI [], dp_ints (.of (s5 _ _ eS4)), dp_ints (.of upd_same), shaped_ints _, shaped_ints _, _, rfl, ?_⟩
        rw [eqv_datI]
        refine ite2 (fun e2 => ?_) (fun e2 => ?_)
        · have hne : bs ≠ [] := fun z => by
            rw [decide_eq_true z] at e2
            cases e2
          obtain ⟨m, hm', hat⟩ := at_last hne
          exact ⟨_, rfl, _, rfl, S, _, _, _, rfl, rfl, .of (s5 _ _ eS4), hat, m, rfl, (hb m hm').1, (hb m hm').2, s5⟩
        · exact ⟨one', rfl, c1, c2, s5⟩
      · exact iteF ⟨one', rfl, c1, c2, .refl _⟩
    rintro σ H5 ⟨one5, rfl, c3, c4, s5⟩
    have eS5 := s5 _ _ eS4
    have hna5 := s5 _ _ hna4
    have src5 := s4.same s5
    refine ⟨fun σ H'' => ∃ (one : Int), σ = [some (.ref p), some (.int far), some (.ref na), some (.int many), some (.ref S), some (.int times), some (.int (0 + (i : Int))), some (.int way), some (.int one)] ∧ 0 ≤ one ∧ one ≤ far ∧ Src H'' p ∧ Off p H5 H'', ?_, ?_⟩
    · refine ⟨_, rfl, (by show 2 ≤ sizeLine; decide), fun tp ntp => ?_⟩
      refine ⟨tp, _, rfl, .inr (.of upd_same), rfl, rfl, _, rfl, ite2 (fun e => ?_) (fun e => ?_)⟩
      · have hna6 := same_upd (o := .tup [.int 2, .int 3]) ntp _ _ hna5
        obtain ⟨v, hv, hat⟩ := atI_mem (xs := ws.map V.int) (i := 0 + (i : Int)) (by omega) (by rw [List.length_map]; omega)
        obtain ⟨wk, _, rfl⟩ := List.mem_map.mp hv
        refine ⟨_, rfl, _, rfl, _, rfl, na, _, _, _, rfl, rfl, .of hna6, hat, _, rfl, _, _, rfl, rfl, .inr ⟨by omega, by omega⟩, _, rfl, _, rfl, p, 3, rfl, by decide, by decide, src5.keep ntp, fun r7 H7 a7 b7 s7 o7 => ?_⟩
        refine ⟨_, _, rfl, rfl, _, _, rfl, rfl, .inl ⟨by omega, by omega⟩, _, _, rfl, rfl, _, _, rfl, _, _, rfl, _, rfl, ?_, ?_, s7, (off_new ntp).trans o7⟩
        · split
          · split <;> omega
          · omega
        · split
          · split <;> omega
          · omega
      · exact ⟨one5, rfl, c3, c4, src5.keep ntp, off_new ntp⟩
    rintro σ H8 ⟨one8, rfl, c5, c6, s8, o8⟩
    have eS8 := o8 _ _ eS5 hSp
    refine ⟨_, rfl, .inl ⟨rfl, _, .of eS8⟩, _, rfl, S, _, _, rfl, rfl, eS8, ?_, ?_⟩
    · rw [List.length_map]
      exact big (by omega)
    refine ⟨_, _, _, bs ++ [one8], rfl, ?_, ?_, ?_, ?_, ?_⟩
    · rw [upd_same, List.map_append]
      rfl
    · rw [List.length_append, el]
      rfl
    · intro n hn
      rcases List.mem_append.mp hn with h | h
      · exact hb n h
      · rw [List.mem_singleton.mp h]
        omega
    · obtain ⟨a, b, c, e⟩ := s8
      exact ⟨a, b, c, by rw [upd_ne hSp.symm]; exact e⟩
    · intro b o hb' hbp
      rw [upd_ne (ne_of_none hb' nS)]
      exact o8 _ _ (s5 _ _ (o4 _ _ (o3 _ _ (o2 _ _ hb' hbp) hbp) hbp)) hbp
  · rintro σ H' ⟨v6, v7, v8, bs, rfl, eS, el, hb, s2, o2⟩
    exact ⟨_, rfl, q S bs H' nS hSp (by omega) hb eS s2 o2⟩
theorem ok_weights (T : Txt K mg) : Ok P w K mg base CX0 "_law_weights" s_weights 4 ["_law_source_here", "_law_many_here"] spWeights := by
  have O_next := ok_next (P := P) (w := w) (base := base) T
  have O_upto := ok_upto (P := P) (w := w) (base := base) T
  refine T.h_weights.ok sc_weights (fun vs H Q E h => ?_) (fun f cdv A outer s H vs Q E hr h => ?_)
  · obtain ⟨p, _, rfl, _⟩ := h; rfl
  obtain ⟨p, many, rfl, hs, m0, m1, q⟩ := h
  refine ⟨_, (pss_cons (ps_set (i := 2) sc_weights.nd rfl (by first | exact Or.inl rfl | exact Or.inr rfl) (pe_ix ix_list (pe_lst (pa_cons pe_int (pa_cons pe_int (pa_cons (pe_op op_pow pe_int pe_int) (pa_cons (pe_op op_sub (pe_op op_pow pe_int pe_int) pe_int) pa_nil))))) (callO O_next (hr.mono (by decide)) (by rfl) (pa_cons (pv 0) (pa_cons pe_int pa_nil))) (fun _ _ => rfl)))
      (pss_cons (ps_set (i := 3) sc_weights.nd rfl (by first | exact Or.inl rfl | exact Or.inr rfl) (pe_lst pa_nil))
      (pss_cons (ps_for PassesOwn.never rfl (pi_range1 (by rfl) T.m_range (pa_cons (pv 1) pa_nil)) (pg_name (i := 4) sc_weights.nd rfl (by first | exact Or.inl rfl | exact Or.inr rfl))
      (pss_cons (ps_set (i := 5) sc_weights.nd rfl (by first | exact Or.inl rfl | exact Or.inr rfl) (callO O_upto (hr.mono (by decide)) (by rfl) (pa_cons (pv 0) (pa_cons (pv 2) pa_nil))))
      (pss_one (ps_expr (pe_bm PySem.F.plainAttrs_list PySem.F.slot_list_append PySem.F.type_list_append mt_append (pv 3) (pa_cons (pe_ix ix_list (pe_lst (pa_cons pe_int (pa_cons pe_int (pa_cons (pv 5) (pa_cons (pv 5) pa_nil))))) (callO O_next (hr.mono (by decide)) (by rfl) (pa_cons (pv 0) (pa_cons pe_int pa_nil))) (fun _ _ => rfl)) pa_nil))))))
      (pss_one (ps_ret (pv 3)))))), ?_⟩
  refine ⟨_, _, rfl, rfl, ⟨by decide, by decide, by decide⟩, _, _, rfl, rfl, ⟨by decide, by decide, by decide⟩, _, _, rfl, rfl, (by show 4 ≤ sizeLine; decide), fun l1 n1 => ?_⟩
  refine ⟨_, rfl, p, 4, rfl, by decide, by decide, hs.keep n1, fun r1 H1 a1 b1 s1 o1 => ?_⟩
  obtain ⟨far, ha, hm⟩ := pick (ns := [2, 40, 10 ^ (6 : Int).toNat, 10 ^ (12 : Int).toNat - 1]) a1 b1 (fun m => 0 < m ∧ m ≤ 1000000000000) (by decide)
  refine ⟨l1, _, _, _, rfl, rfl, .of (o1 _ _ upd_same (hs.ne_new n1)), ha, ?_⟩
  refine ⟨(by show 0 ≤ sizeLine; decide), fun S nS => ?_⟩
  have hSp := s1.ne_new nS
  have o01 : Off p H H1 := (off_new n1).trans o1
  refine ⟨_, rfl, _, rfl, by omega, by omega, for_range (lo := 0) (n := many.toNat) (fun i σ H' => ∃ (v4 v5 : Option V) (bs : List Int), σ = [some (.ref p), some (.int many), some (.int far), some (.ref S), v4, v5] ∧ H' S = some (.lst (bs.map V.int)) ∧ bs.length = i ∧ (∀ n ∈ bs, 0 ≤ n ∧ n ≤ 1000000000000) ∧ Src H' p ∧ (∀ b o, H1 b = some o → b ≠ p → H' b = some o))
    ⟨none, none, [], rfl, upd_same, rfl, (fun n hn => by cases hn), s1.keep nS, fun b o h _ => same_upd nS _ _ h⟩ ?_ ?_⟩
  · rintro i σ H' hi ⟨v4, v5, bs, rfl, eS, el, hb, s2, o2⟩
    refine ⟨_, rfl, _, rfl, p, far, rfl, s2, hm.1, by omega, fun one H4 a4 b4 s4 o4 => ?_⟩
    have eS4 := o4 _ _ eS hSp
    refine ⟨_, rfl, .inl ⟨rfl, _, .of eS4⟩, _, rfl, _, rfl, (by show 4 ≤ sizeLine; decide), fun l5 n5 => ?_⟩
    have hl5 := s4.ne_new n5
    refine ⟨_, rfl, p, 4, rfl, by decide, by decide, s4.keep n5, fun r6 H6 a6 b6 s6 o6 => ?_⟩
    obtain ⟨m, ha6, hm6⟩ := pick (ns := [0, 1, one, one]) a6 b6 (fun m => 0 ≤ m ∧ m ≤ 1000000000000) (by
      intro n hn
      simp only [List.mem_cons, List.not_mem_nil, or_false] at hn
      rcases hn with rfl | rfl | rfl | rfl <;> omega)
    have eS6 := o6 _ _ (same_upd n5 _ _ eS4) hSp
    refine ⟨l5, _, _, _, rfl, rfl, .of (o6 _ _ upd_same hl5), ha6, S, _, _, rfl, rfl, eS6, ?_, ?_⟩
    · rw [List.length_map]
      exact big (by omega)
    refine ⟨_, _, bs ++ [m], rfl, ?_, ?_, ?_, ?_, ?_⟩
    · rw [upd_same, List.map_append]
      rfl
    · rw [List.length_append, el]
      rfl
    · intro n hn
      rcases List.mem_append.mp hn with h | h
      · exact hb n h
      · rw [List.mem_singleton.mp h]
        omega
    · obtain ⟨a, b, c, e⟩ := s6
      exact ⟨a, b, c, by rw [upd_ne hSp.symm]; exact e⟩
    · intro b o hb' hbp
      rw [upd_ne (ne_of_none hb' nS)]
      exact o6 _ _ (same_upd n5 _ _ (o4 _ _ (o2 _ _ hb' hbp) hbp)) hbp
  · rintro σ H' ⟨v4, v5, bs, rfl, eS, el, hb, s2, o2⟩
    exact ⟨_, rfl, q S bs H' (o01.back nS hSp) hSp (by omega) hb eS s2 fun b o h hbp => o2 _ _ (o01 _ _ h hbp) hbp⟩
theorem ok_many (T : Txt K mg) : Ok P w K mg base CX0 "_law_many" s_many 3 ["_law_source_here"] spMany := by
  have O_next := ok_next (P := P) (w := w) (base := base) T
  refine T.h_many.ok sc_many (fun vs H Q E h => ?_) (fun f cdv A outer s H vs Q E hr h => ?_)
  · obtain ⟨p, rfl, _⟩ := h; rfl
  obtain ⟨p, rfl, hs, q⟩ := h
  refine ⟨_, (pss_cons (ps_set (i := 1) sc_many.nd rfl (by first | exact Or.inl rfl | exact Or.inr rfl) (pe_lst (pa_cons (callO O_next (hr.mono (by decide)) (by rfl) (pa_cons (pv 0) (pa_cons pe_int pa_nil))) (pa_cons (callO O_next (hr.mono (by decide)) (by rfl) (pa_cons (pv 0) (pa_cons pe_int pa_nil))) (pa_cons (callO O_next (hr.mono (by decide)) (by rfl) (pa_cons (pv 0) (pa_cons pe_int pa_nil))) (pa_cons pe_int pa_nil))))))
      (pss_one (ps_ret (pe_ix ix_list (pv 1) (pe_ix ix_list (pe_lst (pa_cons pe_int (pa_cons pe_int (pa_cons pe_int (pa_cons pe_int (pa_cons pe_int (pa_cons pe_int pa_nil))))))) (callO O_next (hr.mono (by decide)) (by rfl) (pa_cons (pv 0) (pa_cons pe_int pa_nil))) (fun _ _ => rfl)) (fun _ _ => rfl))))), ?_⟩
  refine ⟨_, rfl, p, 5, rfl, by decide, by decide, hs, fun r1 H1 a1 b1 s1 o1 => ?_⟩
  refine ⟨_, rfl, p, 9, rfl, by decide, by decide, s1, fun r2 H2 a2 b2 s2 o2 => ?_⟩
  refine ⟨_, rfl, p, 61, rfl, by decide, by decide, s2, fun r3 H3 a3 b3 s3 o3 => ⟨(by show 4 ≤ sizeLine; decide), fun l4 n4 => ?_⟩⟩
  have hl4 := s3.ne_new n4
  refine ⟨_, rfl, (by show 6 ≤ sizeLine; decide), fun l5 n5 => ?_⟩
  have hl5 := (s3.keep n4).ne_new n5
  refine ⟨_, rfl, p, 6, rfl, by decide, by decide, (s3.keep n4).keep n5, fun r6 H6 a6 b6 s6 o6 => ?_⟩
  obtain ⟨m, ha6, hm6⟩ := pick (ns := [0, 1, 1, 2, 0, 3]) a6 b6 (fun m => 0 ≤ m ∧ m < 4) (by decide)
  obtain ⟨m2, ha7, hm7⟩ := pick (ns := [r1, r2, r3, 60]) hm6.1 hm6.2 (fun m => 0 ≤ m ∧ m ≤ 60) (by
    intro n hn
    simp only [List.mem_cons, List.not_mem_nil, or_false] at hn
    rcases hn with rfl | rfl | rfl | rfl <;> omega)
  refine ⟨l5, _, _, _, rfl, rfl, .of (o6 _ _ upd_same hl5), ha6, l4, _, _, _, rfl, rfl, .of (o6 _ _ (same_upd n5 _ _ upd_same) hl4), ha7, ?_⟩
  exact q m2 H6 hm7.1 hm7.2 s6 ((((o1.trans o2).trans o3).trans (off_new n4)).trans ((off_new n5).trans o6))
theorem ok_total (T : Txt K mg) : Ok P w K mg base CX0 "_law_total" s_total 4 ["_law_source_here", "_law_most"] spTotal := by
  have O_next := ok_next (P := P) (w := w) (base := base) T
  have O_upto := ok_upto (P := P) (w := w) (base := base) T
  refine T.h_total.ok sc_total (fun vs H Q E h => ?_) (fun f cdv A outer s H vs Q E hr h => ?_)
  · obtain ⟨p, _, rfl, _⟩ := h; rfl
  obtain ⟨p, most, rfl, hs, m0, m1, q⟩ := h
  refine ⟨_, (pss_cons (ps_set (i := 2) sc_total.nd rfl (by first | exact Or.inl rfl | exact Or.inr rfl) (pe_lst (pa_cons pe_int (pa_cons (callO O_next (hr.mono (by decide)) (by rfl) (pa_cons (pv 0) (pa_cons pe_int pa_nil))) (pa_cons (pe_op op_sub (pe_op op_add (pv 1) (callO O_next (hr.mono (by decide)) (by rfl) (pa_cons (pv 0) (pa_cons pe_int pa_nil)))) pe_int) pa_nil)))))
      (pss_cons (ps_set (i := 2) sc_total.nd rfl (by first | exact Or.inl rfl | exact Or.inr rfl) (pe_op op_cat (pv 2) (pe_lst (pa_cons (callO O_upto (hr.mono (by decide)) (by rfl) (pa_cons (pv 0) (pa_cons (pe_op op_pow pe_int pe_int) pa_nil))) (pa_cons (callO O_upto (hr.mono (by decide)) (by rfl) (pa_cons (pv 0) (pa_cons (pe_op op_add (pv 1) pe_int) pa_nil))) pa_nil)))))
      (pss_one (ps_ret (pe_callB (call_max2 rfl) (by rfl) T.m_max (by decide +kernel) (pa_cons pe_int (pa_cons (pe_callB (call_min2 rfl) (by rfl) T.m_min (by decide +kernel) (pa_cons (pe_op op_sub (pe_op op_pow pe_int pe_int) pe_int) (pa_cons (pe_ix ix_list (pv 2) (callO O_next (hr.mono (by decide)) (by rfl) (pa_cons (pv 0) (pa_cons pe_int pa_nil))) (fun _ _ => rfl)) pa_nil))) pa_nil))))))), ?_⟩
  refine ⟨_, rfl, p, 40, rfl, by decide, by decide, hs, fun r1 H1 a1 b1 s1 o1 => ?_⟩
  refine ⟨_, rfl, _, rfl, p, 3, rfl, by decide, by decide, s1, fun r2 H2 a2 b2 s2 o2 => ⟨_, _, rfl, rfl, _, _, rfl, rfl, (by show 3 ≤ sizeLine; decide), fun l3 n3 => ?_⟩⟩
  have hl3 := s2.ne_new n3
  refine ⟨_, rfl, _, rfl, _, _, rfl, rfl, ⟨by decide, by decide, by decide⟩, p, _, rfl, s2.keep n3, by decide, by decide, fun r4 H4 a4 b4 s4 o4 => ?_⟩
  refine ⟨_, rfl, _, rfl, _, _, rfl, rfl, p, most + 1, rfl, s4, by omega, by omega, fun r5 H5 a5 b5 s5 o5 => ⟨(by show 2 ≤ sizeLine; decide), fun l6 n6 => ?_⟩⟩
  have e3 := same_upd (o := .lst [.int r4, .int r5]) n6 _ _ (o5 _ _ (o4 _ _ upd_same hl3) hl3)
  refine ⟨l3, l6, _, _, rfl, rfl, e3, upd_same, (by show 3 + 2 ≤ sizeLine; decide), fun l7 n7 => ?_⟩
  have hl7 := (s5.keep n6).ne_new n7
  refine ⟨_, _, rfl, rfl, ⟨by decide, by decide, by decide⟩, _, _, rfl, rfl, _, rfl, _, rfl, p, 5, rfl, by decide, by decide, (s5.keep n6).keep n7, fun r8 H8 a8 b8 s8 o8 => ?_⟩
  obtain ⟨m, ha, hm⟩ := pick (ns := [0, r1, most + r2 - 1, r4, r5]) a8 b8 (fun m => True) (fun _ _ => trivial)
  refine ⟨l7, _, _, _, rfl, rfl, .of (o8 _ _ upd_same hl7), ha, _, _, rfl, _, _, rfl, ?_⟩
  have e12 : (10 ^ (12 : Int).toNat - 1 : Int) = 999999999999 := by decide
  refine q _ H8 ?_ ?_ s8 ((((o1.trans o2).trans (off_new n3)).trans (o4.trans o5)).trans (((off_new n6).trans (off_new n7)).trans o8))
  · split
    · split <;> omega
    · omega
  · split
    · split <;> omega
    · omega
theorem ok_whole (T : Txt K mg) : Ok P w K mg base CX0 "_law_whole" s_whole 1 ["_law_found"] spWholeI := by
  refine T.h_whole.ok sc_whole (fun vs H Q E h => ?_) (fun f cdv A outer s H vs Q E hr h => ?_)
  · obtain ⟨x, rfl, _⟩ := h; rfl
  obtain ⟨i, rfl, q⟩ := h
  refine ⟨_, (pss_one (ps_ret (pe_and (pe_callB call_isi (by rfl) T.m_isinstance (by decide +kernel) (pa_cons (pv 0) (pa_cons (pe_bltn (v := .ty "int") (by rfl) T.m_int (by decide +kernel) rfl) pa_nil))) (pe_one (pe_not (pe_callB call_isi (by rfl) T.m_isinstance (by decide +kernel) (pa_cons (pv 0) (pa_cons (pe_bltn (v := .ty "bool") (by rfl) T.m_bool (by decide +kernel) rfl) pa_nil)))))))), ?_⟩
  refine ⟨_, rfl, _, _, _, _, true, rfl, .ty _, .base (.int i), kit_ty (by decide +kernel), true, rfl, iteT ?_⟩
  exact ⟨_, rfl, _, _, _, _, false, rfl, .ty _, .base (.int i), kit_ty (by decide +kernel), false, rfl, q⟩
theorem ok_kinds (T : Txt K mg) : Ok P w K mg base CX0 "_law_kinds" s_kinds 2 ["_law_found", "_law_many_here"] spKinds := by
  have O_whole := ok_whole (P := P) (w := w) (base := base) T
  have O_shared := ok_shared (P := P) (w := w) (base := base) T
  refine T.h_kinds.ok sc_kinds (fun vs H Q E h => ?_) (fun f cdv A outer s H vs Q E hr h => ?_)
  · obtain ⟨_, _, _, _, _, rfl, _⟩ := h; rfl
  obtain ⟨t, p, lvv, lv, parts, rfl, et, elv, ep, n1, hlv, q⟩ := h
  refine ⟨_, (pss_cons (ps_if (PW.pt (pw_or (pt_not (pt_val (pe_callB call_isi (by rfl) T.m_isinstance (by decide +kernel) (pa_cons (pv 0) (pa_cons (pe_bltn (v := .ty "tuple") (by rfl) T.m_tuple (by decide +kernel) rfl) pa_nil))))) (pw_or (pt_cmpR op_ne (pe_callB call_len (by rfl) T.m_len (by decide +kernel) (pa_cons (pv 0) pa_nil)) pe_int (nomark _)) (pw_or1 (pt_not (pt_val (pe_callB call_isi (by rfl) T.m_isinstance (by decide +kernel) (pa_cons (pe_ix ix_tup (pv 0) pe_int (fun _ _ => rfl)) (pa_cons (pe_bltn (v := .ty "list") (by rfl) T.m_list (by decide +kernel) rfl) pa_nil)))))))))
      (pss_one (ps_ret pe_bl))
      pss_nil)
      (pss_cons (ps_if (PW.pt (pw_or (pt_cmpR op_ne (pe_callB call_len (by rfl) T.m_len (by decide +kernel) (pa_cons (pe_ix ix_tup (pv 0) pe_int (fun _ _ => rfl)) pa_nil)) (pv 1) (nomark _)) (pw_or1 (pt_not (pt_val (pe_callB (cr_all rfl) (by rfl) T.m_all (by decide +kernel) (pa_cons (pe_lc (own := [("_law_got", 2)]) (by rfl) sc_kinds.nd (pi_list (pe_ix ix_tup (pv 0) pe_int (fun _ _ => rfl))) (blkOk_by (own := [("_law_got", 2)]) (N := n_kinds) (sc := defScope s_kinds) (by decide +kernel)) (fun _ _ _ _ _ => (pg_name (i := 2) sc_kinds.nd rfl (by first | exact Or.inl rfl | exact Or.inr rfl))) (fun _ _ _ _ _ => pts_nil) (fun _ _ _ _ _ => (callO O_whole (hr.mono (by decide)) (by rfl) (pa_cons (pv 2) pa_nil)))) pa_nil)))))))
      (pss_one (ps_ret pe_bl))
      pss_nil)
      (pss_cons (ps_set (i := 3) sc_kinds.nd rfl (by first | exact Or.inl rfl | exact Or.inr rfl) (pe_ix ix_tup (pv 0) pe_int (fun _ _ => rfl)))
      (pss_cons (ps_if (pt_cmpR op_isN (pv 3) pe_non (nomark _))
      (pss_one (ps_ret pe_bl))
      pss_nil)
      (pss_cons (ps_if (PW.pt (pw_or (pt_not (pt_val (pe_callB call_isi (by rfl) T.m_isinstance (by decide +kernel) (pa_cons (pv 3) (pa_cons (pe_bltn (v := .ty "tuple") (by rfl) T.m_tuple (by decide +kernel) rfl) pa_nil))))) (pw_or (pt_cmpR op_ne (pe_callB call_len (by rfl) T.m_len (by decide +kernel) (pa_cons (pv 3) pa_nil)) pe_int (nomark _)) (pw_or (pt_not (pt_val (callO O_whole (hr.mono (by decide)) (by rfl) (pa_cons (pe_ix ix_tup (pv 3) pe_int (fun _ _ => rfl)) pa_nil)))) (pw_or1 (pt_not (pt_val (callO O_whole (hr.mono (by decide)) (by rfl) (pa_cons (pe_ix ix_tup (pv 3) pe_int (fun _ _ => rfl)) pa_nil)))))))))
      (pss_one (ps_ret pe_bl))
      pss_nil)
      (pss_one (ps_ret (pe_and (pe_cmpR op_gt (pe_ix ix_tup (pv 3) pe_int (fun _ _ => rfl)) pe_int (nomark _)) (pe_and (pe_cmpR op_ge (pe_ix ix_tup (pv 3) pe_int (fun _ _ => rfl)) pe_int (nomark _)) (pe_one (pe_cmpR op_eq (callO O_shared (hr.mono (by decide)) (by rfl) (pa_cons (pe_ix ix_tup (pv 3) pe_int (fun _ _ => rfl)) (pa_cons (pe_ix ix_tup (pv 3) pe_int (fun _ _ => rfl)) pa_nil))) pe_int (nomark _)))))))))))), ?_⟩
  refine ⟨_, rfl, _, _, _, _, true, rfl, .ty _, .base (.tup et), kit_ty (by decide +kernel), true, rfl, iteF ?_⟩
  refine ⟨_, rfl, _, _, rfl, .inr ⟨_, .of et, rfl⟩, rfl, false, rfl, iteF ?_⟩
  refine ⟨_, rfl, t, _, _, _, rfl, rfl, .of et, atI_nat (j := 1) rfl, _, _, _, _, true, rfl, .ty _, .base (.lst ep), kit_ty (by decide +kernel), true, rfl, iteF ?_⟩
  refine ⟨_, rfl, t, _, _, _, rfl, rfl, .of et, atI_nat (j := 1) rfl, _, _, rfl, .inl ⟨_, .of ep, rfl⟩, _, rfl, rfl, false, ?_, iteF ?_⟩
  · rw [List.length_map, decide_eq_true rfl]
    rfl
  refine ⟨_, rfl, t, _, _, _, rfl, rfl, .of et, atI_nat (j := 1) rfl, p, rfl, ⟨_, .of ep⟩, fun D nD => lcF_list (K := K) (as := parts) V.int (fun _ => some true) V.bl (.of ep) nD (by omega) ?_ ?_⟩
  · intro i x H' A' B' hx sm ka kb
    exact ⟨rfl, yes_if ⟨_, rfl, x, rfl, ka _ _ rfl (Same.refl _)⟩⟩
  intro H1 s1 e1
  rw [fm_some] at e1
  refine ⟨D, _, rfl, .of e1, true, ?_, iteF ?_⟩
  · congr 1
    rw [List.all_eq_true]
    intro b hb
    obtain ⟨_, _, rfl⟩ := List.mem_map.mp hb
    rfl
  have et1 := s1 _ _ et
  refine ⟨_, rfl, t, _, _, _, rfl, rfl, .of et1, atI_nat (j := 0) rfl, ?_⟩
  cases lv with
  | none =>
    rw [show lvv = .non from elv]
    exact ⟨_, rfl, rfl, _, rfl, iteT (q _ s1)⟩
  | some ab =>
    obtain ⟨a, b, rfl, b0, hg⟩ := hlv ab rfl
    obtain ⟨l, rfl, el⟩ := elv
    have el1 := s1 _ _ el
    refine ⟨_, rfl, rfl, _, rfl, iteF ?_⟩
    refine ⟨_, rfl, _, _, _, _, true, rfl, .ty _, .base (.tup el1), kit_ty (by decide +kernel), true, rfl, iteF ?_⟩
    refine ⟨_, rfl, _, _, rfl, .inr ⟨_, .of el1, rfl⟩, rfl, false, rfl, iteF ?_⟩
    refine ⟨_, rfl, l, _, _, _, rfl, rfl, .of el1, atI_nat (j := 0) rfl, _, rfl, true, rfl, iteF ?_⟩
    refine ⟨_, rfl, l, _, _, _, rfl, rfl, .of el1, atI_nat (j := 1) rfl, _, rfl, true, rfl, iteF ?_⟩
    refine ⟨_, rfl, l, _, _, _, rfl, rfl, .of el1, atI_nat (j := 1) rfl, _, _, rfl, rfl, true, ?_, iteT ?_⟩
    · exact bl_yes (by omega : (0 : Int) < (b : Int))
    refine ⟨_, rfl, l, _, _, _, rfl, rfl, .of el1, atI_nat (j := 0) rfl, _, _, rfl, rfl, true, ?_, iteT ?_⟩
    · exact bl_yes (by omega : (0 : Int) ≤ (a : Int))
    refine ⟨_, rfl, l, _, _, _, rfl, rfl, .of el1, atI_nat (j := 0) rfl, _, rfl, l, _, _, _, rfl, rfl, .of el1, atI_nat (j := 1) rfl, a, b, rfl, rfl, ?_⟩
    rw [hg, show decide (V.int ((1 : Nat) : Int) = V.int 1) = true from decide_eq_true rfl]
    exact q _ s1
end

/-! ### lists of new pairs -/
theorem paired_at {α β : Type} {G : α → β → Prop} : ∀ {l : List α} {m : List β}, Paired G l m → ∀ {i : Nat} {a : α}, l[i]? = some a → ∃ b, m[i]? = some b ∧ G a b
  | _, _, .nil, i, a, h => by simp at h
  | _, _, .cons g r, 0, a, h => by
    cases h
    exact ⟨_, rfl, g⟩
  | _, _, .cons g r, i + 1, a, h => by
    rw [List.getElem?_cons_succ] at h
    obtain ⟨b, hb, gb⟩ := paired_at r h
    exact ⟨b, by rw [List.getElem?_cons_succ]; exact hb, gb⟩
theorem paired_len {α β : Type} {G : α → β → Prop} : ∀ {l : List α} {m : List β}, Paired G l m → l.length = m.length
  | _, _, .nil => rfl
  | _, _, .cons _ r => by rw [List.length_cons, List.length_cons, paired_len r]
theorem paired_mono {α β : Type} {G G' : α → β → Prop} (h : ∀ a b, G a b → G' a b) : ∀ {l : List α} {m : List β}, Paired G l m → Paired G' l m
  | _, _, .nil => .nil
  | _, _, .cons a r => .cons (h _ _ a) (paired_mono h r)
theorem paired_snoc {α β : Type} {G : α → β → Prop} {a : α} {b : β} (g : G a b) : ∀ {l : List α} {m : List β}, Paired G l m → Paired G (l ++ [a]) (m ++ [b])
  | _, _, .nil => .cons g .nil
  | _, _, .cons h r => .cons h (paired_snoc g r)
section
variable {K : PySem.W.Frag} {α β : Type}
theorem lcF_pairs {a : Addr} {Ts : List Addr} {as : List α} (e e' : α → V) {j1 j2 : Nat} {tt : TT} {te : TE} {vs : List Nat} {σ : L2.St} {H1 : Hp} {D : Addr} {Qd : Hp → Prop} (F : α → Option β) (e2 : β → V) (hS : SqL K H1 a (Ts.map V.ref)) (hP : Paired (fun T x => H1 T = some (.tup [e x, e' x])) Ts as) (nD : H1 D = none) (hz : as.length ≤ 40000)
    (hs : ∀ (i : Nat) x H (A : V → Hp → Prop) (B : Hp → Prop), as[i]? = some x → Same H1 H → (∀ z H', F x = some z → Same H H' → A (e2 z) H') → (∀ H', F x = none → Same H H' → B H') →
      wipe (((wipe σ vs).set j1 (some (e x))).set j2 (some (e' x))) vs = wipe σ vs ∧ tt (((wipe σ vs).set j1 (some (e x))).set j2 (some (e' x))) H fun b H3 => if b = true then te (((wipe σ vs).set j1 (some (e x))).set j2 (some (e' x))) H3 A else B H3)
    (hd : ∀ H, Same H1 H → H D = some (.lst ((as.filterMap F).map e2)) → Qd H) :
    ∃ W : Nat → Nat → Hp → Prop, (∃ m, W 0 m (upd H1 D (.lst []))) ∧ ∀ i m H, W i m H →
      ((Itl K a).stop i H ∧ Qd H) ∨ ((Itl K a).go i H ∧ ∃ Nx : Hp → Prop, (∀ H', Nx H' → ∃ m', m' < m ∧ W (i + 1) m' H') ∧ ∀ x H', (Itl K a).yld i H x H' → gTup K 2 (gCons (gName j1) (gCons (gName j2) gNil)) x (wipe σ vs) H' fun σ2 H2 => wipe σ2 vs = wipe σ vs ∧ tt σ2 H2 fun b H3 =>
        if b = true then te σ2 H3 fun y H4 => ∃ acc, H4 D = some (.lst acc) ∧ acc.length < sizeLine ∧ Nx (upd H4 D (.lst (acc ++ [y]))) else Nx H3) := by
  refine lc_it (walk_list (xs := Ts.map V.ref)) (fun i H => H D = some (.lst (((as.take i).filterMap F).map e2)) ∧ Same H1 H) ⟨upd_same, same_upd nD⟩ (fun i H _ h => h.2.seq hS) ?_ ?_
  · rintro i y H H' hi ⟨eD, sm⟩ ⟨rfl, hy⟩
    rw [List.getElem?_map] at hy
    cases eT : Ts[i]? with
    | none => rw [eT] at hy; cases hy
    | some T =>
      rw [eT] at hy
      cases hy
      obtain ⟨x, ex, hT⟩ := paired_at hP eT
      refine ⟨T, _, rfl, .of (sm _ _ hT), rfl, _, _, rfl, _, _, rfl, rfl, ?_⟩
      refine hs i x H' _ _ ex sm (fun z H4 hz4 s4 => ⟨_, s4 _ _ eD, ?_, ?_, same_mut nD (sm.trans s4)⟩) (fun H3 h3 s3 => ⟨?_, sm.trans s3⟩)
      · rw [List.length_map]
        exact big (Nat.le_trans (fm_len F as i) (by omega))
      · rw [upd_same, fm_succ ex, hz4, List.map_append]
        rfl
      · rw [fm_succ ex, h3]
        simpa using s3 _ _ eD
  · rintro H ⟨eD, sm⟩
    rw [List.length_map, paired_len hP, List.take_length] at eD
    exact hd H sm eD
theorem lcT_zip {a b : Addr} {as : List α} (e e' : α → V) {j1 j2 : Nat} {tt : TT} {vs : List Nat} {σ : L2.St} {H1 : Hp} {D : Addr} {Qd : Hp → Prop} (p : α → Bool) (hS : SqL K H1 a (as.map e)) (hS2 : SqL K H1 b (as.map e')) (nD : H1 D = none) (hz : as.length ≤ 40000)
    (hv : ∀ x, (((wipe σ vs).set j1 (some (e x))).set j2 (some (e' x)))[j1]? = some (some (e x)) ∧ (((wipe σ vs).set j1 (some (e x))).set j2 (some (e' x)))[j2]? = some (some (e' x)))
    (ht : ∀ (i : Nat) x H (B : Bool → Hp → Prop), as[i]? = some x → Same H1 H → B (p x) H → wipe (((wipe σ vs).set j1 (some (e x))).set j2 (some (e' x))) vs = wipe σ vs ∧ tt (((wipe σ vs).set j1 (some (e x))).set j2 (some (e' x))) H B)
    (hd : ∀ H (Ts : List Addr), Same H1 H → H D = some (.lst (Ts.map V.ref)) → Paired (fun T x => H T = some (.tup [e x, e' x])) Ts (as.filter p) → Qd H) :
    ∃ W : Nat → Nat → Hp → Prop, (∃ m, W 0 m (upd H1 D (.lst []))) ∧ ∀ i m H, W i m H →
      ((Itz K a b).stop i H ∧ Qd H) ∨ ((Itz K a b).go i H ∧ ∃ Nx : Hp → Prop, (∀ H', Nx H' → ∃ m', m' < m ∧ W (i + 1) m' H') ∧ ∀ x H', (Itz K a b).yld i H x H' → gTup K 2 (gCons (gName j1) (gCons (gName j2) gNil)) x (wipe σ vs) H' fun σ2 H2 => wipe σ2 vs = wipe σ vs ∧ tt σ2 H2 fun b H3 =>
        if b = true then tTup (tCons (tVar j1) (tCons (tVar j2) tNil)) σ2 H3 fun y H4 => ∃ acc, H4 D = some (.lst acc) ∧ acc.length < sizeLine ∧ Nx (upd H4 D (.lst (acc ++ [y]))) else Nx H3) := by
  have hlen : as.length = min (as.map e).length (as.map e').length := by
    rw [List.length_map, List.length_map]
    omega
  refine lc_it (L2.walk_zip (xs := as.map e) (ys := as.map e') hlen) (fun i H => ∃ Ts : List Addr, H D = some (.lst (Ts.map V.ref)) ∧ Paired (fun T x => H T = some (.tup [e x, e' x])) Ts ((as.take i).filter p) ∧ Same H1 H) ⟨[], upd_same, by rw [List.take_zero]; exact .nil, same_upd nD⟩ (fun i H _ h => by obtain ⟨_, _, _, h⟩ := h; exact ⟨h.seq hS, h.seq hS2⟩) ?_ ?_
  · rintro i y H H' hi ⟨Ts, eD, pr, sm⟩ ⟨T, x, z, rfl, nT, rfl, hx, hy⟩
    replace hx : (as.map e)[i]? = some x := hx
    replace hy : (as.map e')[i]? = some z := hy
    have e1 : as[i]? = some as[i] := List.getElem?_eq_getElem hi
    rw [List.getElem?_map, e1] at hx
    rw [List.getElem?_map, e1] at hy
    cases hx
    cases hy
    have sT := same_upd (o := .tup [e as[i], e' as[i]]) nT
    refine ⟨T, _, rfl, .of upd_same, rfl, _, _, rfl, _, _, rfl, rfl, ?_⟩
    have pr' := paired_mono (fun T' x' h => sT T' _ h) pr
    have eD' := sT _ _ eD
    have sm' := sm.trans sT
    have hts : (as.take (i + 1)).filter p = (as.take i).filter p ++ (if p as[i] = true then [as[i]] else []) := by
      rw [List.take_add_one, e1, List.filter_append]
      congr 1
      simp [List.filter_cons]
    have tl : Ts.length ≤ as.length := by
      rw [paired_len pr]
      refine Nat.le_trans (List.length_filter_le _ _) ?_
      rw [List.length_take]
      omega
    refine ht i as[i] _ _ e1 sm' ?_
    cases hp : p as[i] with
    | true =>
      refine iteT ⟨_, (hv as[i]).1, _, (hv as[i]).2, (by show 2 ≤ sizeLine; decide), fun T2 nT2 => ?_⟩
      have sT2 := same_upd (o := .tup [e as[i], e' as[i]]) nT2
      have hTD : T2 ≠ D := (ne_of_none eD' nT2).symm
      refine ⟨_, sT2 _ _ eD', ?_, Ts ++ [T2], ?_, ?_, same_mut nD (sm'.trans sT2)⟩
      · rw [List.length_map]
        exact big (by omega)
      · rw [upd_same, List.map_append]
        rfl
      · rw [hts, hp, if_pos rfl]
        refine paired_snoc ?_ (paired_mono (fun T' x' h => ?_) pr')
        · rw [upd_ne hTD]
          exact upd_same
        · have hn : T' ≠ D := fun z => by
            rw [z, eD'] at h
            cases h
          rw [upd_ne hn]
          exact sT2 _ _ h
    | false =>
      refine iteF ⟨Ts, eD', ?_, sm'⟩
      rw [hts, hp, if_neg (by decide), List.append_nil]
      exact pr'
  · rintro H ⟨Ts, eD, pr, sm⟩
    rw [List.take_length] at pr
    exact hd H Ts sm eD pr
end
/-! ### caps: who is weighted -/
theorem lims_all {ps : List Pr} : (∀ x ∈ lims ps, x.1 ≠ none) ↔ ∀ x ∈ ps.filter p0, x.1 ≠ none := by
  constructor
  · intro h x hx
    obtain ⟨h1, h2⟩ := List.mem_filter.mp hx
    have := h (lims1 x) (List.mem_map.mpr ⟨x, h1, rfl⟩)
    unfold lims1 at this
    rw [if_pos (of_decide_eq_true h2)] at this
    exact this
  · intro h y hy
    obtain ⟨x, hx, rfl⟩ := List.mem_map.mp hy
    unfold lims1
    by_cases hw : 0 < x.2
    · rw [if_pos hw]
      exact h x (List.mem_filter.mpr ⟨hx, decide_eq_true hw⟩)
    · rw [if_neg hw]
      simp
theorem lims_sum (f g : Pr → Int) (h1 : ∀ x : Pr, 0 < x.2 → f x = g x) (h2 : ∀ x : Pr, ¬ 0 < x.2 → f (some 0, x.2) = 0) : ∀ ps : List Pr, ((lims ps).map f).sum = ((ps.filter p0).map g).sum
  | [] => rfl
  | x :: r => by
    have ih := lims_sum f g h1 h2 r
    show f (lims1 x) + ((lims r).map f).sum = _
    unfold lims1
    by_cases hw : 0 < x.2
    · rw [if_pos hw, List.filter_cons_of_pos (by exact decide_eq_true hw), List.map_cons, List.sum_cons, ih, h1 x hw]
    · rw [if_neg hw, List.filter_cons_of_neg (by show ¬ p0 x = true; unfold p0; rw [decide_eq_false hw]; decide), ih, h2 x hw]
      omega
theorem capped_iff {total : Int} {ps : List Pr} : allCapped total ps ↔ (∀ x ∈ ps.filter p0, x.1 ≠ none) ∧ ((ps.filter p0).map lim).sum ≤ total := by
  unfold allCapped sumL
  rw [lims_all, lims_sum lim lim (fun _ _ => rfl) (fun _ _ => rfl)]
theorem val_lims {t b : Int} (ps : List Pr) : ((lims ps).map (val true t b)).sum = ((ps.filter p0).map (val true t b)).sum := by
  refine lims_sum _ _ (fun _ _ => rfl) (fun x hx => ?_) ps
  unfold val
  rw [if_neg]
  · exact Int.zero_mul b
  · intro z
    exact hx (free_iff.mp z).1
theorem val_less {t b : Int} {x : Pr} (hx : 0 < x.2) : val true t b x = (match x.1 with | none => t * x.2 | some c => if t * x.2 < c * b then t * x.2 else c * b) := by
  obtain ⟨c, w⟩ := x
  unfold val free
  rw [decide_eq_true (show 0 < w from hx)]
  cases c with
  | none => rfl
  | some c =>
    show (if (true && !decide (c * b ≤ t * w)) = true then t * w else c * b) = if t * w < c * b then t * w else c * b
    by_cases h : c * b ≤ t * w
    · rw [decide_eq_true h, if_neg (by decide), if_neg (by omega)]
    · rw [decide_eq_false h, if_pos (by decide), if_pos (by omega)]

/-! ### this law's defs -/
structure RestOk (H : Hp) (ta ca wa : Addr) (t b : Nat) (ps : List Pr) : Prop where
  et : H ta = some (.lst ((runP (t : Int) (b : Int) (free true (t : Int) (b : Int)) 0 (lims ps)).map V.int))
  ec : H ca = some (.lst (ps.map fun x => ov x.1))
  ew : H wa = some (.lst (ps.map fun x => .int x.2))
  good : Good ps
  b0 : 0 < b
  t1 : t < 2 ^ 60
  b1 : b < 2 ^ 60
  l1 : ∀ x ∈ ps, lim x < 2 ^ 60
theorem RestOk.same {H H' : Hp} {ta ca wa : Addr} {t b : Nat} {ps : List Pr} (s : Same H H') (h : RestOk H ta ca wa t b ps) : RestOk H' ta ca wa t b ps :=
  ⟨s _ _ h.et, s _ _ h.ec, s _ _ h.ew, h.good, h.b0, h.t1, h.b1, h.l1⟩
def spRest : Sp := fun vs H Q _ => ∃ (ta ca wa : Addr) (t b : Nat) (ps : List Pr), vs = [.ref ta, .ref ca, .ref wa, .int (t : Int), .int (b : Int)] ∧ RestOk H ta ca wa t b ps ∧ ∀ H', Same H H' → Q (.bl true) H'
structure RightOk (H : Hp) (f ca wa : Addr) (total : Int) (ps : List Pr) : Prop where
  ex : ∃ (p : Addr) (lvv : V) (lv : Option (Int × Int)) (parts : List Int), H f = some (.tup [lvv, .ref p]) ∧ LvAt H lvv lv ∧ H p = some (.lst (parts.map V.int)) ∧ Dealt total ps lv parts
  ec : H ca = some (.lst (ps.map fun x => ov x.1))
  ew : H wa = some (.lst (ps.map fun x => .int x.2))
  good : Good ps
  l1 : ∀ x ∈ ps, lim x ≤ 1000000000000
  w1 : ∀ x ∈ ps, x.2 ≤ 1000000000000
  n1 : ps.length ≤ 1000
  s0 : 0 ≤ total
  s1 : total ≤ 1000000000000
def spRight : Sp := fun vs H Q _ => ∃ (f ca wa : Addr) (total : Int) (ps : List Pr), vs = [.ref f, .int total, .ref ca, .ref wa] ∧ RightOk H f ca wa total ps ∧ ∀ H', Same H H' → Q (.bl true) H'
def spNought : Sp := fun vs H Q _ => ∃ (ca : Addr) (ps : List Pr), vs = [.ref ca] ∧ H ca = some (.lst (ps.map fun x => ov x.1)) ∧ ps.length ≤ 4000 ∧ ∀ n H', H n = none → H' n = some (.lst ((ps.map lim).map V.int)) → Same H H' → Q (.ref n) H'
def spLesser : Sp := fun vs H Q _ => ∃ (x : Pr) (t b : Int), vs = [ov x.1, .int (t * x.2), .int b] ∧ 0 < x.2 ∧ 0 ≤ lim x ∧ lim x < 2 ^ 60 ∧ Q (.int (val true t b x)) H
def spLaw (K : PySem.W.Frag) : Sp := fun vs H Q _ => ∃ (a : Addr) (ns : List Int), vs = [.ref a] ∧ SqL K H a (ns.map V.int) ∧ ns.length ≤ 63 ∧ ∀ H', Q (.bl true) H'
theorem small_of {i : Int} (h : i.natAbs < 2 ^ 200) : small i := Nat.lt_of_lt_of_le h (Nat.pow_le_pow_right (by decide) (by decide))
theorem Dealt.len {total : Int} {ps : List Pr} {lv : Option (Int × Int)} {parts : List Int} (h : Dealt total ps lv parts) : parts.length = ps.length := by
  rcases h with ⟨_, _, rfl⟩ | ⟨_, room, W, _, _, rfl⟩
  · unfold lims
    rw [List.length_map, List.length_map]
  · rw [runP_len]
    exact List.length_map _
theorem Fix.bounds {cap : Bool} {total : Int} {ps : List Pr} {room W : Int} (g : Good ps) (fx : Fix cap total ps room W) : room ≤ total ∧ W ≤ sumW ps := by
  have h0 := sum_nonneg lim (ps.filter fun x => !free cap room W x) fun x hx => g.l0 x (List.mem_filter.mp hx).1
  have h1 := sum_split1 (fun x : Pr => x.2) (free cap room W) ps
  have h2 := sum_nonneg (fun x : Pr => x.2) (ps.filter fun x => !free cap room W x) fun x hx => g.w0 x (List.mem_filter.mp hx).1
  have e1 := fx.eR
  have e2 := fx.eW
  unfold sumL at e1
  unfold sumW at e2 ⊢
  omega
theorem good_lims {ps : List Pr} (g : Good ps) : Good (lims ps) := by
  refine ⟨fun y hy => ?_, fun y hy => ?_⟩
  · obtain ⟨x, hx, rfl⟩ := List.mem_map.mp hy
    have := g.w0 x hx
    unfold lims1
    split <;> exact this
  · obtain ⟨x, hx, rfl⟩ := List.mem_map.mp hy
    have := g.l0 x hx
    unfold lims1
    split
    · exact this
    · exact Int.le_refl 0
/-- caps and numbers, two lists, as data -/
def datOI (os : List (Option Int)) (ws : List Int) : PyData := .list [datO os, datI ws]
theorem dp_OI {K : PySem.W.Frag} {H : Hp} {l a b : Addr} {os : List (Option Int)} {ws : List Int} (h : H l = some (.lst [.ref a, .ref b])) (ha : H a = some (.lst (os.map ov))) (hb : H b = some (.lst (ws.map V.int))) : Dp K H (.ref l) (datOI os ws) :=
  .lst (.of h) (.cons (dp_O ha) (.cons (dp_ints (.of hb)) .nil))
theorem shaped_OI (os : List (Option Int)) (ws : List Int) : SeqAt.shaped (datOI os ws) = true := by
  unfold SeqAt.shaped datOI
  rw [Bool.and_eq_true]
  constructor
  · show (PyData.canLay0 (datO os) && (PyData.canLay0 (datI ws) && true)) = true
    have h1 : PyData.canLay0 (datO os) = true := can_O os
    have h2 : PyData.canLay0 (datI ws) = true := can_ints ws
    rw [h1, h2]
    rfl
  · have h1 : PyData.depth (datO os) = 1 := by
      show PyData.depthAll _ + 1 = 1
      rw [depth_O]
    have h2 : PyData.depth (datI ws) = 1 := by
      show PyData.depthAll (ws.map PyData.int) + 1 = 1
      rw [depth_ints]
    show decide (max (PyData.depth (datO os)) (max (PyData.depth (datI ws)) 0) + 1 ≤ 64) = true
    rw [h1, h2]
    rfl
theorem eqv_OO : ∀ os : List (Option Int), PyData.eqvAll (os.map fun o => match o with | none => PyData.none | some c => .int c) (os.map fun o => match o with | none => PyData.none | some c => .int c) = true
  | [] => rfl
  | none :: r => by
    show (true && _) = true
    rw [Bool.true_and]
    exact eqv_OO r
  | some c :: r => by
    show ((c == c) && _) = true
    rw [beq_self_eq_true, Bool.true_and]
    exact eqv_OO r
theorem eqv_OI (os : List (Option Int)) (ws : List Int) : PyData.eqv (datOI os ws) (datOI os ws) = true := by
  have h1 : PyData.eqv (datO os) (datO os) = true := eqv_OO os
  show (PyData.eqv (datO os) (datO os) && (PyData.eqv (datI ws) (datI ws) && true)) = true
  rw [h1, eqv_datI, decide_eq_true rfl]
  rfl
section
variable {P : Program} {w : World} {K : PySem.W.Frag} {mg : Str → Option Value} {base : Heap}
theorem ok_nought (T : Txt K mg) : Ok P w K mg base CX0 "_law_nought" s_nought 1 ["_law_caps"] spNought := by
  refine T.h_nought.ok sc_nought (fun vs H Q E h => ?_) (fun f cdv A outer s H vs Q E hr h => ?_)
  · obtain ⟨_, _, rfl, _⟩ := h; rfl
  obtain ⟨ca, ps, rfl, hc, n1, q⟩ := h
  refine ⟨_, (pss_one (ps_ret (pe_lc (own := [("_law_cap", 1)]) (te := (tOp (rIxL K) (tLst (tCons (tVar 1) (tCons _ tNil))) (tCB _ (tCons (tOp _ (tVar 1) _) tNil)))) (by rfl) sc_nought.nd (pi_list (pv 0)) (blkOk_by (own := [("_law_cap", 1)]) (N := n_nought) (sc := defScope s_nought) (by decide +kernel)) (fun _ _ _ _ _ => (pg_name (i := 1) sc_nought.nd rfl (by first | exact Or.inl rfl | exact Or.inr rfl))) (fun _ _ _ _ _ => pts_nil) (fun _ _ _ _ _ => (pe_ix ix_list (pe_lst (pa_cons (pv 1) (pa_cons pe_int pa_nil))) (pe_callTy call_int1 (by rfl) T.m_int (by decide +kernel) (pa_cons (pe_cmpR op_isN (pv 1) pe_non (nomark _)) pa_nil)) (fun _ _ => rfl)))))), ?_⟩
  refine ⟨_, rfl, ca, rfl, ⟨_, .of hc⟩, fun D nD => lcF_list (K := K) (as := ps) (fun x => ov x.1) (fun x => some (lim x)) V.int (.of hc) nD (by omega) ?_ ?_⟩
  · rintro i ⟨c, wt⟩ H' A' B' hx sm ka kb
    refine ⟨rfl, yes_if ⟨_, rfl, (by show 2 ≤ sizeLine; decide), fun l nl => ?_⟩⟩
    cases c with
    | none => exact ⟨_, rfl, rfl, .inr ⟨_, rfl, l, _, _, _, rfl, rfl, .of upd_same, atI_nat (j := 1) rfl, ka _ _ rfl (same_upd nl)⟩⟩
    | some c => exact ⟨_, rfl, rfl, .inr ⟨_, rfl, l, _, _, _, rfl, rfl, .of upd_same, atI_nat (j := 0) rfl, ka _ _ rfl (same_upd nl)⟩⟩
  intro H1 s1 e1
  rw [fm_some] at e1
  exact q D H1 nD e1 s1
theorem ok_lesser (T : Txt K mg) : Ok P w K mg base CX0 "_law_lesser" s_lesser 1 ["_law_cap", "_law_part", "_law_bottom"] spLesser := by
  refine T.h_lesser.ok sc_lesser (fun vs H Q E h => ?_) (fun f cdv A outer s H vs Q E hr h => ?_)
  · obtain ⟨_, _, _, rfl, _⟩ := h; rfl
  obtain ⟨⟨c, wt⟩, t, b, rfl, w0, l0, l1, q⟩ := h
  rw [val_less w0] at q
  refine ⟨_, (pss_cons (ps_if (pt_cmpR op_isN (pv 0) pe_non (nomark _))
      (pss_one (ps_ret (pv 1)))
      pss_nil)
      (pss_one (ps_ret (pe_callB (call_min2 rfl) (by rfl) T.m_min (by decide +kernel) (pa_cons (pe_op op_mul (pv 0) (pv 2)) (pa_cons (pv 1) pa_nil)))))), ?_⟩
  cases c with
  | none => exact ⟨_, rfl, rfl, _, rfl, iteT ⟨_, rfl, q⟩⟩
  | some c =>
    have a0 : 0 ≤ c := l0
    have a1 : c < 2 ^ 60 := l1
    exact ⟨_, rfl, rfl, _, rfl, iteF ⟨_, rfl, _, rfl, _, _, rfl, rfl, .inl ⟨by omega, by omega⟩, _, rfl, _, _, rfl, q⟩⟩
theorem ok_rest (T : Txt K mg) : Ok P w K mg base CX0 "_law_rest_right" s_rest_right 1 ["_law_told", "_law_caps", "_law_weights_here", "_law_top", "_law_bottom"] spRest := by
  refine T.h_rest_right.ok sc_rest_right (fun vs H Q E h => ?_) (fun f cdv A outer s H vs Q E hr h => ?_)
  · obtain ⟨_, _, _, _, _, _, rfl, _⟩ := h; rfl
  obtain ⟨ta, ca, wa, t, b, ps, rfl, ro, q⟩ := h
  have b0 := ro.b0
  have t1 := ro.t1
  have b1 := ro.b1
  have bz : (0 : Int) < (b : Int) := by omega
  have db : ∀ i : Int, CDivW i (b : Int) := fun i => wide_div (b := 100) bz (by omega) (by decide) (by decide)
  refine ⟨_, (pss_cons (ps_set (i := 5) sc_rest_right.nd rfl (by first | exact Or.inl rfl | exact Or.inr rfl) pe_int)
      (pss_cons (ps_for PassesOwn.never rfl (pi_zip3 (by rfl) T.m_zip (pa_cons (pv 0) (pa_cons (pv 1) (pa_cons (pv 2) pa_nil)))) (pg_tup rfl (pgs_cons (pg_name (i := 6) sc_rest_right.nd rfl (by first | exact Or.inl rfl | exact Or.inr rfl)) (pgs_cons (pg_name (i := 7) sc_rest_right.nd rfl (by first | exact Or.inl rfl | exact Or.inr rfl)) (pgs_cons (pg_name (i := 8) sc_rest_right.nd rfl (by first | exact Or.inl rfl | exact Or.inr rfl)) pgs_nil))))
      (pss_cons (ps_set (i := 9) sc_rest_right.nd rfl (by first | exact Or.inl rfl | exact Or.inr rfl) (pv 7))
      (Evl.pss_cut (ps_if (pt_cmpR op_eq (pv 8) pe_int (nomark _))
      (pss_one (ps_set (i := 9) sc_rest_right.nd rfl (by first | exact Or.inl rfl | exact Or.inr rfl) pe_int))
      (pss_one (ps_if (PW.pt (pw_or (pt_cmpR op_isN (pv 7) pe_non (nomark _)) (pw_or1 (pt_cmpR op_gt (pe_op op_mul (pv 7) (pv 4)) (pe_op op_mul (pv 3) (pv 8)) (nomark _)))))
      (pss_cons (ps_set (i := 9) sc_rest_right.nd rfl (by first | exact Or.inl rfl | exact Or.inr rfl) (pe_op op_sub (pe_op op_fdivW (pe_op op_mul (pv 3) (pe_op op_add (pv 5) (pv 8))) (pv 4)) (pe_op op_fdivW (pe_op op_mul (pv 3) (pv 5)) (pv 4))))
      (pss_one (ps_set (i := 5) sc_rest_right.nd rfl (by first | exact Or.inl rfl | exact Or.inr rfl) (pe_op op_add (pv 5) (pv 8)))))
      pss_nil)))
      (pss_one (ps_if (pt_cmpR op_ne (pv 6) (pv 9) (nomark _))
      (pss_one (ps_ret pe_bl))
      pss_nil)))))
      (pss_one (ps_ret pe_bl)))), ?_⟩
  refine ⟨_, rfl, _, rfl, _, rfl, ta, ca, wa, _, _, _, rfl, .of ro.et, .of ro.ec, .of ro.ew, for_zip3 (n := ps.length) (xs := (runP (t : Int) (b : Int) (free true (t : Int) (b : Int)) 0 (lims ps)).map V.int) (ys := ps.map fun x => ov x.1) (zs := ps.map fun x => V.int x.2)
    (by rw [List.length_map, runP_len]; exact List.length_map _) (List.length_map _) (List.length_map _)
    (fun i σ H' => ∃ v6 v7 v8 v9, σ = [some (.ref ta), some (.ref ca), some (.ref wa), some (.int (t : Int)), some (.int (b : Int)), some (.int (sumW (((lims ps).take i).filter (free true (t : Int) (b : Int))))), v6, v7, v8, v9] ∧ Same H H')
    ⟨none, none, none, none, rfl, .refl _⟩ (fun i σ H' _ h => by
      obtain ⟨_, _, _, _, _, o⟩ := h
      exact ⟨.of (ro.same o).et, .of (ro.same o).ec, .of (ro.same o).ew⟩) ?_ ?_⟩
  · rintro i g fl wv Tt σ H' hg hf hw ⟨v6, v7, v8, v9, rfl, o⟩ nT
    have hi : i < ps.length := by
      have := (List.getElem?_eq_some_iff.mp hf).1
      rwa [List.length_map] at this
    have e1 : ps[i]? = some ps[i] := List.getElem?_eq_getElem hi
    have hm : ps[i] ∈ ps := List.getElem_mem hi
    have e2 : (lims ps)[i]? = some (lims1 ps[i]) := by
      unfold lims
      rw [List.getElem?_map, e1]
      rfl
    rw [List.getElem?_map, runP_at _ _ _ (lims ps) 0 i (lims1 ps[i]) e2, Int.zero_add] at hg
    rw [List.getElem?_map, e1] at hf
    rw [List.getElem?_map, e1] at hw
    cases hg
    cases hf
    cases hw
    have st := sumW_take (f := free true (t : Int) (b : Int)) e2
    generalize sumW (((lims ps).take i).filter (free true (t : Int) (b : Int))) = cum at st ⊢
    generalize ps[i] = x at hm st ⊢
    have l0 := ro.good.l0 x hm
    have l1 := ro.l1 x hm
    have w0 := ro.good.w0 x hm
    generalize hG : (if free true (t : Int) (b : Int) (lims1 x) = true then (t : Int) * (cum + (lims1 x).2) / (b : Int) - (t : Int) * cum / (b : Int) else lim (lims1 x)) = G
    have oo : Same H (upd H' Tt (.tup [.int G, ov x.1, .int x.2])) := o.trans (same_upd nT)
    refine ⟨Tt, _, rfl, .of upd_same, rfl, _, _, rfl, _, _, rfl, _, _, rfl, rfl, ?_⟩
    generalize upd H' Tt (.tup [.int G, ov x.1, .int x.2]) = H2 at oo ⊢
    refine ⟨_, rfl, fun σ H'' => σ = [some (.ref ta), some (.ref ca), some (.ref wa), some (.int (t : Int)), some (.int (b : Int)), some (.int (cum + (if free true (t : Int) (b : Int) (lims1 x) = true then (lims1 x).2 else 0))), some (.int G), some (ov x.1), some (.int x.2), some (.int G)] ∧ H2 = H'', ?_, ?_⟩
    · refine ⟨_, rfl, rfl, _, rfl, ite2 (fun e => ?_) (fun e => ?_)⟩
      · have hx0 : x.2 = 0 := V.int.inj (of_decide_eq_true e)
        have hl : lims1 x = (some 0, x.2) := by
          unfold lims1
          rw [if_neg (by omega)]
        have hf : free true (t : Int) (b : Int) (lims1 x) = false := by
          rw [hl]
          unfold free
          rw [decide_eq_false (by show ¬ 0 < x.2; omega)]
          rfl
        rw [hf, if_neg (by decide), hl] at hG
        rw [hf, if_neg (by decide), Int.add_zero, ← hG]
        exact ⟨rfl, rfl⟩
      · have hx : 0 < x.2 := by
          rcases Int.lt_or_le 0 x.2 with z | z
          · exact z
          · exfalso
            apply e
            refine decide_eq_true ?_
            show V.int x.2 = V.int 0
            rw [show x.2 = 0 by omega]
        have hl : lims1 x = x := by
          unfold lims1
          rw [if_pos hx]
        rw [hl] at hG ⊢
        have yes : free true (t : Int) (b : Int) x = true → tSeq (tAsg (tOp (rI0 fun i j => V.int (i - j)) (tOp (rI CDivW fun i j => V.int (i / j)) (tOp (rI CMul fun i j => V.int (i * j)) (tVar 3) (tOp (rI0 fun i j => V.int (i + j)) (tVar 5) (tVar 8))) (tVar 4)) (tOp (rI CDivW fun i j => V.int (i / j)) (tOp (rI CMul fun i j => V.int (i * j)) (tVar 3) (tVar 5)) (tVar 4))) (gName 9)) (tAsg (tOp (rI0 fun i j => V.int (i + j)) (tVar 5) (tVar 8)) (gName 5))
            { nx := fun σ H'' => σ = [some (.ref ta), some (.ref ca), some (.ref wa), some (.int (t : Int)), some (.int (b : Int)), some (.int (cum + (if free true (t : Int) (b : Int) x = true then x.2 else 0))), some (.int G), some (ov x.1), some (.int x.2), some (.int G)] ∧ H2 = H'', rt := Q }
            [some (.ref ta), some (.ref ca), some (.ref wa), some (.int (t : Int)), some (.int (b : Int)), some (.int cum), some (.int G), some (ov x.1), some (.int x.2), some (ov x.1)] H2 := fun hfr => by
          rw [hfr, if_pos rfl] at hG
          refine ⟨_, rfl, _, rfl, _, rfl, _, _, rfl, rfl, _, _, rfl, rfl, .inl ⟨by omega, by omega⟩, _, rfl, _, _, rfl, rfl, db _, _, rfl, _, rfl, _, _, rfl, rfl, .inl ⟨by omega, by omega⟩, _, rfl, _, _, rfl, rfl, db _, _, _, rfl, rfl, _, rfl, _, rfl, _, _, rfl, rfl, ?_, rfl⟩
          rw [hfr, if_pos rfl, ← hG]
          rfl
        obtain ⟨c, wt⟩ := x
        cases c with
        | none =>
          refine ⟨_, rfl, rfl, _, rfl, iteT (iteT ?_)⟩
          refine yes ?_
          unfold free
          rw [decide_eq_true hx]
          rfl
        | some c =>
          have a0 : 0 ≤ c := l0
          have a1 : c < 2 ^ 60 := l1
          refine ⟨_, rfl, rfl, _, rfl, iteF ?_⟩
          refine ⟨_, rfl, _, rfl, _, _, rfl, rfl, .inl ⟨by omega, by omega⟩, _, rfl, _, rfl, _, _, rfl, rfl, .inl ⟨by omega, by omega⟩, _, _, rfl, rfl, _, rfl, ite2 (fun e2 => ?_) (fun e2 => ?_)⟩
          · refine yes ?_
            have h3 : (t : Int) * wt < c * (b : Int) := of_decide_eq_true e2
            exact free_iff.mpr ⟨hx, decide_eq_false (show ¬ c * (b : Int) ≤ (t : Int) * wt by omega)⟩
          · have h2 : ¬ (t : Int) * wt < c * (b : Int) := fun z => e2 (decide_eq_true z)
            have hf : free true (t : Int) (b : Int) (some c, wt) = false := by
              rw [Bool.eq_false_iff]
              intro z
              have h3 := (free_iff.mp z).2
              exact (of_decide_eq_false h3) (by omega)
            rw [hf, if_neg (by decide)] at hG
            rw [hf, if_neg (by decide), Int.add_zero, ← hG]
            exact ⟨rfl, rfl⟩
    rintro σ H'' ⟨rfl, rfl⟩
    refine ⟨_, rfl, _, rfl, rfl, false, by rw [decide_eq_true rfl]; rfl, iteF ?_⟩
    exact ⟨_, _, _, _, by rw [st], oo⟩
  · rintro σ H' ⟨v6, v7, v8, v9, rfl, o⟩
    exact q _ o
end

section
variable {P : Program} {w : World} {K : PySem.W.Frag} {mg : Str → Option Value} {base : Heap}
theorem ok_right (T : Txt K mg) : Ok P w K mg base CX0 "_law_right" s_right 3 ["_law_found", "_law_total_here", "_law_caps", "_law_weights_here"] spRight := by
  have O_kinds := ok_kinds (P := P) (w := w) (base := base) T
  have O_nought := ok_nought (P := P) (w := w) (base := base) T
  have O_lesser := ok_lesser (P := P) (w := w) (base := base) T
  have O_rest_right := ok_rest (P := P) (w := w) (base := base) T
  refine T.h_right.ok sc_right (fun vs H Q E h => ?_) (fun f cdv A outer s H vs Q E hr h => ?_)
  · obtain ⟨_, _, _, _, _, rfl, _⟩ := h; rfl
  obtain ⟨fo, ca, wa, total, ps, rfl, ⟨⟨p, lvv, lv, parts, ef, elv, ep, dl⟩, ec, ew, good, l1, w1, n1, tot0, tot1⟩, q⟩ := h
  have hpl := dl.len
  refine ⟨_, (pss_cons (ps_if (pt_not (pt_val (callO O_kinds (hr.mono (by decide)) (by rfl) (pa_cons (pv 0) (pa_cons (pe_callB call_len (by rfl) T.m_len (by decide +kernel) (pa_cons (pv 2) pa_nil)) pa_nil)))))
      (pss_one (ps_ret pe_bl))
      pss_nil)
      (pss_cons (ps_asg (pv 0) (pg_tup rfl (pgs_cons (pg_name (i := 4) sc_right.nd rfl (by first | exact Or.inl rfl | exact Or.inr rfl)) (pgs_cons (pg_name (i := 5) sc_right.nd rfl (by first | exact Or.inl rfl | exact Or.inr rfl)) pgs_nil))))
      (pss_cons (ps_setLc (i := 6) (own := [("_law_cap", 7), ("_law_weight", 8)]) (g := gTup K 2 (gCons (gName 7) (gCons (gName 8) gNil))) (by rfl) sc_right.nd rfl rfl (sw_true rfl rfl rfl (by decide +kernel)) (pi_zip (by rfl) T.m_zip (pa_cons (pv 2) (pa_cons (pv 3) pa_nil))) (blkOk_by (own := [("_law_cap", 7), ("_law_weight", 8)]) (N := n_right) (sc := defScope s_right) (by decide +kernel)) (fun _ _ _ _ _ => (pg_tup rfl (pgs_cons (pg_name (i := 7) sc_right.nd rfl (by first | exact Or.inl rfl | exact Or.inr rfl)) (pgs_cons (pg_name (i := 8) sc_right.nd rfl (by first | exact Or.inl rfl | exact Or.inr rfl)) pgs_nil)))) (fun _ _ _ _ _ => (pts_one (pt_cmpR op_gt (pv 8) pe_int (nomark _)))) (fun _ _ _ _ _ => (pe_tup (pa_cons (pv 7) (pa_cons (pv 8) pa_nil)))))
      (Evl.pss_cut (ps_if (PW.pt (pw_and (pt_cmpR op_notIn_seq pe_non (pe_lc (own := [("_law_cap", 7), ("_law_weight", 8)]) (g := gTup K 2 (gCons (gName 7) (gCons (gName 8) gNil))) (by rfl) sc_right.nd (pi_list (pv 6)) (blkOk_by (own := [("_law_cap", 7), ("_law_weight", 8)]) (N := n_right) (sc := defScope s_right) (by decide +kernel)) (fun _ _ _ _ _ => (pg_tup rfl (pgs_cons (pg_name (i := 7) sc_right.nd rfl (by first | exact Or.inl rfl | exact Or.inr rfl)) (pgs_cons (pg_name (i := 8) sc_right.nd rfl (by first | exact Or.inl rfl | exact Or.inr rfl)) pgs_nil)))) (fun _ _ _ _ _ => pts_nil) (fun _ _ _ _ _ => (pv 7))) (by rfl)) (pw_and1 (pt_cmpR op_le (pe_callB (cr_sum rfl) (by rfl) T.m_sum (by decide +kernel) (pa_cons (pe_lc (own := [("_law_cap", 7), ("_law_weight", 8)]) (g := gTup K 2 (gCons (gName 7) (gCons (gName 8) gNil))) (by rfl) sc_right.nd (pi_list (pv 6)) (blkOk_by (own := [("_law_cap", 7), ("_law_weight", 8)]) (N := n_right) (sc := defScope s_right) (by decide +kernel)) (fun _ _ _ _ _ => (pg_tup rfl (pgs_cons (pg_name (i := 7) sc_right.nd rfl (by first | exact Or.inl rfl | exact Or.inr rfl)) (pgs_cons (pg_name (i := 8) sc_right.nd rfl (by first | exact Or.inl rfl | exact Or.inr rfl)) pgs_nil)))) (fun _ _ _ _ _ => pts_nil) (fun _ _ _ _ _ => (pv 7))) pa_nil)) (pv 1) (nomark _)))))
      (pss_cons (ps_setLc (i := 9) (own := [("_law_cap", 7), ("_law_weight", 8)]) (g := gTup K 2 (gCons (gName 7) (gCons (gName 8) gNil))) (by rfl) sc_right.nd rfl rfl (sw_true rfl rfl rfl (by decide +kernel)) (pi_zip (by rfl) T.m_zip (pa_cons (callO O_nought (hr.mono (by decide)) (by rfl) (pa_cons (pv 2) pa_nil)) (pa_cons (pv 3) pa_nil))) (blkOk_by (own := [("_law_cap", 7), ("_law_weight", 8)]) (N := n_right) (sc := defScope s_right) (by decide +kernel)) (fun _ _ _ _ _ => (pg_tup rfl (pgs_cons (pg_name (i := 7) sc_right.nd rfl (by first | exact Or.inl rfl | exact Or.inr rfl)) (pgs_cons (pg_name (i := 8) sc_right.nd rfl (by first | exact Or.inl rfl | exact Or.inr rfl)) pgs_nil)))) (fun _ _ _ _ _ => pts_nil) (fun _ _ _ _ _ => (pe_op op_mul (pv 7) (pe_callTy call_int1 (by rfl) T.m_int (by decide +kernel) (pa_cons (pe_cmpR op_gt (pv 8) pe_int (nomark _)) pa_nil)))))
      (pss_one (ps_ret (pe_and (pe_cmpR op_isN (pv 4) pe_non (nomark _)) (pe_one (pe_cmpR (op_eqD hr.units) (pv 5) (pv 9) (nomark _)))))))
      pss_nil)
      (pss_cons (ps_if (pt_cmpR op_isN (pv 4) pe_non (nomark _))
      (pss_one (ps_ret pe_bl))
      pss_nil)
      (pss_cons (ps_asg (pv 4) (pg_tup rfl (pgs_cons (pg_name (i := 10) sc_right.nd rfl (by first | exact Or.inl rfl | exact Or.inr rfl)) (pgs_cons (pg_name (i := 11) sc_right.nd rfl (by first | exact Or.inl rfl | exact Or.inr rfl)) pgs_nil))))
      (pss_cons (ps_if (pt_cmpR op_ne (pe_callB (cr_sum rfl) (by rfl) T.m_sum (by decide +kernel) (pa_cons (pe_lc (own := [("_law_cap", 7), ("_law_weight", 8)]) (g := gTup K 2 (gCons (gName 7) (gCons (gName 8) gNil))) (by rfl) sc_right.nd (pi_list (pv 6)) (blkOk_by (own := [("_law_cap", 7), ("_law_weight", 8)]) (N := n_right) (sc := defScope s_right) (by decide +kernel)) (fun _ _ _ _ _ => (pg_tup rfl (pgs_cons (pg_name (i := 7) sc_right.nd rfl (by first | exact Or.inl rfl | exact Or.inr rfl)) (pgs_cons (pg_name (i := 8) sc_right.nd rfl (by first | exact Or.inl rfl | exact Or.inr rfl)) pgs_nil)))) (fun _ _ _ _ _ => pts_nil) (fun _ _ _ _ _ => (callO O_lesser (hr.mono (by decide)) (by rfl) (pa_cons (pv 7) (pa_cons (pe_op op_mul (pv 10) (pv 8)) (pa_cons (pv 11) pa_nil)))))) pa_nil)) (pe_op op_mul (pv 1) (pv 11)) (nomark _))
      (pss_one (ps_ret pe_bl))
      pss_nil)
      (pss_one (ps_ret (callO O_rest_right (hr.mono (by decide)) (by rfl) (pa_cons (pv 5) (pa_cons (pv 2) (pa_cons (pv 3) (pa_cons (pv 10) (pa_cons (pv 11) pa_nil))))))))))))))), ?_⟩
  refine ⟨_, rfl, _, rfl, _, _, rfl, .inl ⟨_, .of ec, rfl⟩, fo, p, lvv, lv, parts, by rw [List.length_map, hpl]; rfl, ef, elv, ep, by omega, ?_, fun H1 s1 => ⟨true, rfl, iteF ?_⟩⟩
  · rintro x rfl
    rcases dl with ⟨_, h, _⟩ | ⟨_, room, W, fx, h, _⟩
    · cases h
    · obtain ⟨t, b, elow, hg, b0, _⟩ := low_pos fx.w0 fx.r0
      cases h
      exact ⟨t, b, elow, b0, hg⟩
  have ef1 := s1 _ _ ef
  refine ⟨_, rfl, fo, _, rfl, .of ef1, rfl, _, _, rfl, _, _, rfl, rfl, ?_⟩
  refine ⟨_, rfl, _, rfl, ca, wa, _, _, rfl, .of (s1 _ _ ec), .of (s1 _ _ ew), fun D nD => lcT_zip (K := K) (as := ps) (fun x => ov x.1) (fun x => V.int x.2) p0 (.of (s1 _ _ ec)) (.of (s1 _ _ ew)) nD (by omega) (fun x => ⟨rfl, rfl⟩) ?_ ?_⟩
  · intro i x H' B' hx sm kb
    exact ⟨rfl, _, rfl, _, _, rfl, rfl, _, rfl, kb⟩
  intro H2 Ts s2 eD pr
  have s12 := s1.trans s2
  have fl : (ps.filter p0).length ≤ 40000 := Nat.le_trans (List.length_filter_le _ _) (by omega)
  refine ⟨fun σ H' => σ = [some (.ref fo), some (.int total), some (.ref ca), some (.ref wa), some lvv, some (.ref p), some (.ref D), none, none, none, none, none] ∧ ¬ allCapped total ps ∧ Same H2 H', ?_, ?_⟩
  · refine ⟨_, rfl, D, rfl, ⟨_, .of eD⟩, fun D2 n2 => lcF_pairs (K := K) (as := ps.filter p0) (fun x => ov x.1) (fun x => V.int x.2) (fun x => some x) (fun x => ov x.1) (.of eD) pr n2 fl ?_ ?_⟩
    · intro i x H' A' B' hx sm ka kb
      exact ⟨rfl, yes_if ⟨_, rfl, ka _ _ rfl (Same.refl _)⟩⟩
    intro H3 s3 e3
    rw [fm_some (fun x : Pr => x), List.map_id'] at e3
    refine ⟨D2, _, rfl, .inl (.of e3), rfl, flat_ov _, _, rfl, ?_⟩
    rw [in_none]
    by_cases hk : ∀ x ∈ ps.filter p0, x.1 ≠ none
    · rw [decide_eq_false fun z => z hk]
      refine iteT ?_
      have eD3 := s3 _ _ eD
      refine ⟨_, rfl, D, rfl, ⟨_, .of eD3⟩, fun D4 n4 => lcF_pairs (K := K) (as := ps.filter p0) (fun x => ov x.1) (fun x => V.int x.2) (fun x => some x) (fun x => ov x.1) (.of eD3) (paired_mono (fun T' x' h => s3 _ _ h) pr) n4 fl ?_ ?_⟩
      · intro i x H' A' B' hx sm ka kb
        exact ⟨rfl, yes_if ⟨_, rfl, ka _ _ rfl (Same.refl _)⟩⟩
      intro H4 s4 e4
      rw [fm_some (fun x : Pr => x), List.map_id', ovs_known hk] at e4
      refine ⟨D4, _, rfl, .of e4, _, rfl, _, _, rfl, rfl, _, rfl, ite2 (fun e => ?_) (fun e => ?_)⟩
      · have hc : allCapped total ps := capped_iff.mpr ⟨hk, of_decide_eq_true e⟩
        have s04 := (s12.trans s3).trans s4
        rcases dl with ⟨_, rfl, rfl⟩ | ⟨hn, _⟩
        · rw [show lvv = .non from elv]
          refine ⟨_, rfl, ca, ps, rfl, s04 _ _ ec, by omega, fun N H5 nN eN s5 => ?_⟩
          have ew5 : H5 wa = some (.lst ((ps.map fun x => x.2).map V.int)) := by
            rw [List.map_map]
            exact s5 _ _ (s04 _ _ ew)
          refine ⟨_, rfl, N, wa, _, _, rfl, .of eN, .of ew5, fun D6 n6 => lcF_zip (K := K) (as := ps.map lim) (bs := ps.map fun x => x.2) V.int V.int (fun x y => some (x * (if decide (0 < y) = true then 1 else 0))) V.int (.of eN) (.of ew5) n6 (by rw [List.length_map]; omega) ?_ ?_⟩
          · intro i x y H' A' B' hx hy sm ka kb
            have xm := List.mem_of_getElem? hx
            obtain ⟨x', hx', rfl⟩ := List.mem_map.mp xm
            have a0 := good.l0 x' hx'
            have a1 := l1 x' hx'
            exact ⟨rfl, yes_if ⟨_, rfl, _, rfl, _, _, rfl, rfl, .inr ⟨_, rfl, _, _, rfl, rfl, .inl ⟨by omega, by omega⟩, ka _ _ rfl (Same.refl _)⟩⟩⟩
          intro H6 s6 e6
          rw [fm_zip_at lim (fun x : Pr => x.2) (fun x y => some (x * (if decide (0 < y) = true then 1 else 0))) ps, fm_some] at e6
          have hd : (ps.map fun x => lim x * (if decide (0 < x.2) = true then 1 else 0)) = (lims ps).map lim := by
            unfold lims
            rw [List.map_map]
            refine List.map_congr_left fun x hx => ?_
            show _ = lim (lims1 x)
            unfold lims1
            by_cases hw : 0 < x.2
            · rw [decide_eq_true hw, if_pos rfl, if_pos hw, Int.mul_one]
            · rw [decide_eq_false hw, if_neg (by decide), if_neg hw, Int.mul_zero]
              rfl
          rw [hd] at e6
          have s06 := (s04.trans s5).trans s6
          refine ⟨_, rfl, rfl, true, rfl, iteT ?_⟩
          refine ⟨_, rfl, _, rfl, datI _, datI _, dp_ints (.of (s06 _ _ ep)), dp_ints (.of e6), shaped_ints _, shaped_ints _, ?_⟩
          rw [eqv_datI, decide_eq_true rfl]
          exact q _ s06
        · exact absurd hc hn
      · exact ⟨rfl, fun z => e (decide_eq_true (capped_iff.mp z).2), s3.trans s4⟩
    · rw [decide_eq_true hk]
      exact iteF (iteF ⟨rfl, fun z => hk (capped_iff.mp z).1, s3⟩)
  rintro σ H3 ⟨rfl, hn, s3⟩
  rcases dl with ⟨hc, _⟩ | ⟨_, room, W, fx, rfl, rfl⟩
  · exact absurd hc hn
  obtain ⟨t, b, elow, hg, b0, hrb⟩ := low_pos fx.w0 fx.r0
  obtain ⟨bt, bb⟩ := low_le elow fx.r0 fx.w0
  obtain ⟨hroom, hW⟩ := fx.bounds (good_lims good)
  rw [lims_sumW] at hW
  have sW1 := mk_fits (fun x : Pr => x.2) ps 1000000000000 w1 (by decide)
  have sW2 : (ps.length : Int) * 1000000000000 ≤ 1000 * 1000000000000 := Int.mul_le_mul_of_nonneg_right (by omega) (by decide)
  unfold sumW at hW
  rw [elow] at elv
  obtain ⟨l, rfl, el⟩ := elv
  have bz : (0 : Int) < (b : Int) := by omega
  have V1 := fx.val.scale bz (by omega) hrb
  have s03 := s12.trans s3
  refine ⟨_, rfl, rfl, _, rfl, iteF ?_⟩
  refine ⟨_, rfl, l, _, rfl, .of (s03 _ _ el), rfl, _, _, rfl, _, _, rfl, rfl, ?_⟩
  have eD3 := s3 _ _ eD
  refine ⟨_, rfl, D, rfl, ⟨_, .of eD3⟩, fun D4 n4 => lcF_pairs (K := K) (as := ps.filter p0) (fun x => ov x.1) (fun x => V.int x.2) (fun x => some (val true (t : Int) (b : Int) x)) V.int (.of eD3) (paired_mono (fun T' x' h => s3 _ _ h) pr) n4 fl ?_ ?_⟩
  · intro i x H' A' B' hx sm ka kb
    obtain ⟨xm, xp⟩ := List.mem_filter.mp (List.mem_of_getElem? hx)
    have a0 := good.l0 x xm
    have a1 := l1 x xm
    exact ⟨rfl, yes_if ⟨_, rfl, _, rfl, _, rfl, _, _, rfl, rfl, .inl ⟨by omega, by omega⟩, _, rfl, x, (t : Int), (b : Int), rfl, of_decide_eq_true xp, a0, by omega, ka _ _ rfl (Same.refl _)⟩⟩
  intro H4 s4 e4
  rw [fm_some] at e4
  have s04 := s03.trans s4
  refine ⟨D4, _, rfl, .of e4, _, rfl, _, rfl, _, _, rfl, rfl, .inl ⟨by omega, by omega⟩, rfl, false, ?_, iteF ?_⟩
  · rw [← val_lims, V1.sum, decide_eq_true rfl]
    rfl
  have er : runP room W (free true room W) 0 (lims ps) = runP (t : Int) (b : Int) (free true (t : Int) (b : Int)) 0 (lims ps) := runP_same fx.w0 bz hrb _ _ (lims ps) 0 fun x => free_same fx.w0 bz hrb x
  exact ⟨_, rfl, _, rfl, _, rfl, _, rfl, _, rfl, p, ca, wa, t, b, ps, rfl, ⟨by rw [← er]; exact s04 _ _ ep, s04 _ _ ec, s04 _ _ ew, good, b0, by omega, by omega, fun x hx => by have := l1 x hx; omega⟩, fun H5 s5 => q _ (s04.trans s5)⟩
theorem ok_law {f : Addr} {fd : FuncData} (F : Fun K "law" "law" s_law f fd) (T : Txt K mg) : FnOk P w K mg base CX0 7 f fd ["_law_script"] (spLaw K) := by
  have O_cell_at := ok_cell_at (P := P) (w := w) (base := base) T
  have O_source := ok_source (P := P) (w := w) (base := base) T
  have O_next := ok_next (P := P) (w := w) (base := base) T
  have O_many := ok_many (P := P) (w := w) (base := base) T
  have O_weights := ok_weights (P := P) (w := w) (base := base) T
  have O_some := ok_some (P := P) (w := w) (base := base) T
  have O_total := ok_total (P := P) (w := w) (base := base) T
  have O_p_dealt := ok_dealt (P := P) (w := w) (base := base) T
  have O_right := ok_right (P := P) (w := w) (base := base) T
  refine F.ok sc_law (fun vs H Q E h => ?_) (fun cdv A outer s H vs Q E hr h => ?_)
  · obtain ⟨a, ns, rfl, _⟩ := h; rfl
  obtain ⟨a, ns, rfl, hS, hlen, k⟩ := h
  refine ⟨_, (pss_cons (ps_for PassesOwn.never rfl (pi_list (pe_op op_cat (pe_lst (pa_cons (callO O_cell_at (hr.mono (by decide)) (by rfl) (pa_cons (pv 0) (pa_cons pe_int pa_nil))) pa_nil)) (pe_slice sl_list (pv 0) (po_some pe_int) (po_some pe_int)))) (pg_name (i := 1) sc_law.nd rfl (by first | exact Or.inl rfl | exact Or.inr rfl))
      (pss_cons (ps_set (i := 2) sc_law.nd rfl (by first | exact Or.inl rfl | exact Or.inr rfl) (callO O_source (hr.mono (by decide)) (by rfl) (pa_cons (pv 1) pa_nil)))
      (pss_cons (ps_set (i := 3) sc_law.nd rfl (by first | exact Or.inl rfl | exact Or.inr rfl) (callO O_many (hr.mono (by decide)) (by rfl) (pa_cons (pv 2) pa_nil)))
      (pss_cons (ps_set (i := 4) sc_law.nd rfl (by first | exact Or.inl rfl | exact Or.inr rfl) (callO O_weights (hr.mono (by decide)) (by rfl) (pa_cons (pv 2) (pa_cons (pv 3) pa_nil))))
      (pss_cons (ps_set (i := 5) sc_law.nd rfl (by first | exact Or.inl rfl | exact Or.inr rfl) (callO O_some (hr.mono (by decide)) (by rfl) (pa_cons (pv 2) (pa_cons (pe_ix ix_list (pe_lst (pa_cons pe_int (pa_cons pe_int (pa_cons (pe_op op_sub (pe_op op_pow pe_int pe_int) pe_int) pa_nil)))) (callO O_next (hr.mono (by decide)) (by rfl) (pa_cons (pv 2) (pa_cons pe_int pa_nil))) (fun _ _ => rfl)) (pa_cons (pv 4) (pa_cons (pv 3) pa_nil))))))
      (Evl.pss_cut (ps_if (pt_cmpR op_eq (callO O_next (hr.mono (by decide)) (by rfl) (pa_cons (pv 2) (pa_cons pe_int pa_nil))) pe_int (nomark _))
      (pss_one (ps_setLc (i := 5) (own := [("_law_cap", 6)]) (te := (tOp (rIxL K) (tLst (tCons (tVar 6) (tCons _ tNil))) (tOp _ (tCall _ _ _ (tCons (tVar 2) (tCons _ tNil))) _))) (by rfl) sc_law.nd rfl rfl (sw_true rfl rfl rfl (by decide +kernel)) (pi_list (pv 5)) (blkOk_by (own := [("_law_cap", 6)]) (N := n_law) (sc := defScope s_law) (by decide +kernel)) (fun _ _ _ _ _ => (pg_name (i := 6) sc_law.nd rfl (by first | exact Or.inl rfl | exact Or.inr rfl))) (fun _ _ _ _ _ => pts_nil) (fun _ _ _ _ _ => (pe_ix ix_list (pe_lst (pa_cons (pv 6) (pa_cons pe_non pa_nil))) (pe_op op_fdiv (callO O_next (hr.mono (by decide)) (by rfl) (pa_cons (pv 2) (pa_cons pe_int pa_nil))) pe_int) (fun _ _ => rfl)))))
      pss_nil)
      (pss_cons (ps_set (i := 7) sc_law.nd rfl (by first | exact Or.inl rfl | exact Or.inr rfl) (pe_callB (cr_sum rfl) (by rfl) T.m_sum (by decide +kernel) (pa_cons (pe_lc (own := [("_law_cap", 6), ("_law_weight", 8)]) (g := gTup K 2 (gCons (gName 6) (gCons (gName 8) gNil))) (by rfl) sc_law.nd (pi_zip (by rfl) T.m_zip (pa_cons (pv 5) (pa_cons (pv 4) pa_nil))) (blkOk_by (own := [("_law_cap", 6), ("_law_weight", 8)]) (N := n_law) (sc := defScope s_law) (by decide +kernel)) (fun _ _ _ _ _ => (pg_tup rfl (pgs_cons (pg_name (i := 6) sc_law.nd rfl (by first | exact Or.inl rfl | exact Or.inr rfl)) (pgs_cons (pg_name (i := 8) sc_law.nd rfl (by first | exact Or.inl rfl | exact Or.inr rfl)) pgs_nil)))) (fun _ _ _ _ _ => (pts_one (PW.pt (pw_and (pt_cmpR op_notN (pv 6) pe_non (nomark _)) (pw_and1 (pt_cmpR op_gt (pv 8) pe_int (nomark _))))))) (fun _ _ _ _ _ => (pv 6))) pa_nil)))
      (pss_cons (ps_set (i := 9) sc_law.nd rfl (by first | exact Or.inl rfl | exact Or.inr rfl) (callO O_total (hr.mono (by decide)) (by rfl) (pa_cons (pv 2) (pa_cons (pv 7) pa_nil))))
      (pss_cons (ps_set (i := 10) sc_law.nd rfl (by first | exact Or.inl rfl | exact Or.inr rfl) (pe_lst (pa_cons (pe_callTy call_list_of (by rfl) T.m_list (by decide +kernel) (pa_cons (pv 5) pa_nil)) (pa_cons (pe_callTy call_list_of (by rfl) T.m_list (by decide +kernel) (pa_cons (pv 4) pa_nil)) pa_nil))))
      (pss_cons (ps_set (i := 11) sc_law.nd rfl (by first | exact Or.inl rfl | exact Or.inr rfl) (callO O_p_dealt (hr.mono (by decide)) (by rfl) (pa_cons (pv 9) (pa_cons (pe_ix ix_list (pv 10) pe_int (fun _ _ => rfl)) (pa_cons (pe_ix ix_list (pv 10) pe_int (fun _ _ => rfl)) pa_nil)))))
      (pss_one (ps_if (PW.pt (pw_or (pt_cmpR (op_neD hr.units) (pv 10) (pe_lst (pa_cons (pv 5) (pa_cons (pv 4) pa_nil))) (nomark _)) (pw_or1 (pt_not (pt_val (callO O_right (hr.mono (by decide)) (by rfl) (pa_cons (pv 11) (pa_cons (pv 9) (pa_cons (pv 5) (pa_cons (pv 4) pa_nil))))))))))
      (pss_one (ps_ret pe_bl))
      pss_nil))))))))))))
      (pss_one (ps_ret pe_bl))), ?_⟩
  refine cells_for rfl hS hlen fun L zs HB hL sB => ?_
  refine for_list (K := K) (a := L) (xs := zs.map V.int) (fun i σ H2 => (∃ v1 v2 v3 v4 v5 v6 v7 v8 v9 v10 v11, σ = [some (.ref a), v1, v2, v3, v4, v5, v6, v7, v8, v9, v10, v11]) ∧ Same HB H2)
    ⟨⟨none, none, none, none, none, none, none, none, none, none, none, rfl⟩, .refl _⟩ (fun i σ H2 _ h2 => .of (h2.2 _ _ hL)) ?_ (fun σ H2 _ => k H2)
  rintro i y σ H2 hi ⟨⟨v1, v2, v3, v4, v5, v6, v7, v8, v9, v10, v11, rfl⟩, sm⟩
  obtain ⟨z, rfl, _⟩ := int_at hi
  refine ⟨_, rfl, z, rfl, fun p H3 np s3 sm3 => ?_⟩
  refine ⟨_, rfl, p, rfl, s3, fun many H4 m0 m1 s4 o4 => ?_⟩
  refine ⟨_, rfl, _, rfl, p, many, rfl, s4, m0, by omega, fun Wa ws H5 nW hWp wlen wB eW s5 o5 => ?_⟩
  refine ⟨_, rfl, _, _, rfl, rfl, ⟨by decide, by decide, by decide⟩, _, _, rfl, rfl, (by show 3 ≤ sizeLine; decide), fun l6 n6 => ?_⟩
  refine ⟨_, rfl, p, 3, rfl, by decide, by decide, s5.keep n6, fun r6 H6 a6 b6 s6 o6 => ?_⟩
  obtain ⟨far, ha6, hm6⟩ := pick (ns := [9, 400, 10 ^ (12 : Int).toNat - 1]) a6 b6 (fun m => 0 < m ∧ m ≤ 1000000000000) (by decide)
  have o56 : Off p H5 H6 := (off_new n6).trans o6
  have eW6 := o56 _ _ eW hWp
  refine ⟨l6, _, _, _, rfl, rfl, .of (o6 _ _ upd_same (s5.ne_new n6)), ha6, _, rfl, _, rfl, p, Wa, far, many, ws, rfl, s6, hWp, eW6, wlen, hm6.1, by omega, by omega, fun Fa fs H7 nF hFp flen fB eF s7 o7 => ?_⟩
  have eW7 := o7 _ _ eW6 hWp
  refine ⟨fun σ H' => ∃ (Ca : Addr) (cs : List (Option Int)) (v6 : Option V), σ = [some (.ref a), some (.int z), some (.ref p), some (.int many), some (.ref Wa), some (.ref Ca), v6, v7, v8, v9, v10, v11] ∧ Ca ≠ p ∧ H' Ca = some (.lst (cs.map ov)) ∧ cs.length = fs.length ∧ (∀ c ∈ cs, 0 ≤ c.getD 0 ∧ c.getD 0 ≤ 1000000000000) ∧ Src H' p ∧ Off p H7 H', ?_, ?_⟩
  · refine ⟨_, rfl, p, 2, rfl, by decide, by decide, s7, fun r8 H8 a8 b8 s8 o8 => ⟨rfl, _, rfl, ite2 (fun e => ?_) (fun e => ?_)⟩⟩
    · have eF8 := o8 _ _ eF hFp
      refine ⟨_, rfl, Fa, rfl, ⟨_, .of eF8⟩, fun Ca nC => lcD (walk_list (K := K) (a := Fa) (xs := fs.map V.int)) (p := p) ov (fun i x => (fs.map V.int)[i]? = some x) (fun _ _ _ _ h => h) (fun i c => c = none ∨ c = fs[i]?) s8 nC (by rw [List.length_map]; omega) (fun H' o => .of (o _ _ eF8 hFp)) ?_ ?_⟩
      · rintro i x H' A' hi hx sH o kA
        obtain ⟨b, rfl, hb'⟩ := int_at hx
        refine ⟨rfl, _, rfl, (by show 2 ≤ sizeLine; decide), fun l12 n12 => ?_⟩
        refine ⟨_, rfl, p, 4, rfl, by decide, by decide, sH.keep n12, fun r H'' r0 r1 s'' o'' => ⟨_, _, rfl, rfl, ⟨by decide, by decide⟩, ?_⟩⟩
        have hl12 : l12 ≠ p := sH.ne_new n12
        have oo : Off p H' H'' := (off_new n12).trans o''
        rcases (show r / 3 = 0 ∨ r / 3 = 1 by omega) with e | e
        · exact ⟨l12, [.int b, .non], _, .int b, rfl, rfl, .of (o'' _ _ upd_same hl12), by rw [e]; rfl, kA (some b) H'' (.inr hb'.symm) s'' oo⟩
        · exact ⟨l12, [.int b, .non], _, .non, rfl, rfl, .of (o'' _ _ upd_same hl12), by rw [e]; rfl, kA none H'' (.inl rfl) s'' oo⟩
      intro H9 cs hCp clen cR eC s9 o9
      rw [List.length_map] at clen
      refine ⟨Ca, cs, _, rfl, hCp, eC, clen, fun c hc => ?_, s9, o8.trans o9⟩
      obtain ⟨i, hi⟩ := List.getElem?_of_mem hc
      rcases cR i c hi with rfl | e
      · exact ⟨by decide, by decide⟩
      · cases eb : fs[i]? with
        | none => rw [e, eb]; exact ⟨by decide, by decide⟩
        | some b =>
          rw [e, eb]
          have := fB b (List.mem_of_getElem? eb)
          exact ⟨this.1, Int.le_trans this.2 hm6.2⟩
    · refine ⟨Fa, fs.map some, _, rfl, hFp, ?_, List.length_map _, fun c hc => ?_, s8, o8⟩
      · rw [List.map_map]
        exact o8 _ _ eF hFp
      · obtain ⟨b, hb, rfl⟩ := List.mem_map.mp hc
        have := fB b hb
        exact ⟨this.1, Int.le_trans this.2 hm6.2⟩
  rintro σ H8 ⟨Ca, cs, v6', rfl, hCp, eC, clen, cB, s8, o8⟩
  have eW8 := o8 _ _ eW7 hWp
  have lcw : cs.length = ws.length := by omega
  generalize hls : cs.zip ws = ls
  have zm : ∀ x ∈ ls, x.1 ∈ cs ∧ x.2 ∈ ws := fun x hx => by
    rw [← hls] at hx
    exact List.of_mem_zip (show (x.1, x.2) ∈ cs.zip ws from hx)
  have l0 : ∀ x ∈ ls, 0 ≤ lim x ∧ lim x ≤ 1000000000000 := fun x hx => cB _ (zm x hx).1
  have n1 : ls.length ≤ 60 := by
    rw [← hls, List.length_zip]
    omega
  have ec0 : cs.map ov = ls.map fun x => ov x.1 := by
    rw [← hls, zip_fst_map ov cs ws lcw]
  have ew0 : ws.map V.int = ls.map fun x => V.int x.2 := by
    rw [← hls, zip_snd_map V.int cs ws lcw]
  have eC8 : H8 Ca = some (.lst (ls.map fun x => ov x.1)) := by rw [← ec0]; exact eC
  have eW8' : H8 Wa = some (.lst (ls.map fun x => V.int x.2)) := by rw [← ew0]; exact eW8
  have good : Good ls := ⟨fun x hx => (wB _ (zm x hx).2).1, fun x hx => (l0 x hx).1⟩
  have sW0 := sum_nonneg (fun x : Pr => x.2) ls fun x hx => (wB _ (zm x hx).2).1
  have sW1 := mk_fits (fun x : Pr => x.2) ls 1000000000000 (fun x hx => (wB _ (zm x hx).2).2) (by decide)
  have sW2 : (ls.length : Int) * 1000000000000 ≤ 60 * 1000000000000 := Int.mul_le_mul_of_nonneg_right (by omega) (by decide)
  -- what is known of the caps
  refine ⟨_, rfl, _, rfl, Ca, Wa, _, _, rfl, .of eC8, .of eW8', fun Kn nK => lcF_zip (K := K) (as := ls) (bs := ls) (fun x => ov x.1) (fun x => V.int x.2) (fun x y => if (x.1.isSome && decide (0 < y.2)) = true then some (lim x) else none) V.int (.of eC8) (.of eW8') nK (by omega) ?_ ?_⟩
  · rintro i ⟨c, wt⟩ y H' A' B' hx hy sm' ka kb
    cases c with
    | none => exact ⟨rfl, _, rfl, rfl, _, rfl, iteF (iteF (kb _ rfl (Same.refl _)))⟩
    | some c =>
      refine ⟨rfl, _, rfl, rfl, _, rfl, iteT ⟨_, rfl, _, _, rfl, rfl, _, rfl, ite2 (fun e => ?_) (fun e => ?_)⟩⟩
      · refine ⟨_, rfl, ka c _ ?_ (Same.refl _)⟩
        rw [if_pos]
        · rfl
        · exact e
      · refine kb _ ?_ (Same.refl _)
        rw [if_neg]
        exact e
  intro H9 s89 eK
  rw [fm_zip_self (fun (x y : Pr) => if (x.1.isSome && decide (0 < y.2)) = true then some (lim x) else none) ls, fm_opt (fun x : Pr => x.1.isSome && decide (0 < x.2)) lim] at eK
  have k0 := sum_nonneg lim (ls.filter fun x : Pr => x.1.isSome && decide (0 < x.2)) fun x hx => (l0 x (List.mem_filter.mp hx).1).1
  have k1 := mk_fits lim (ls.filter fun x : Pr => x.1.isSome && decide (0 < x.2)) 1000000000000 (fun x hx => (l0 x (List.mem_filter.mp hx).1).2) (by decide)
  have kl := List.length_filter_le (fun x : Pr => x.1.isSome && decide (0 < x.2)) ls
  have k2 : ((ls.filter fun x : Pr => x.1.isSome && decide (0 < x.2)).length : Int) * 1000000000000 ≤ 60 * 1000000000000 := Int.mul_le_mul_of_nonneg_right (by omega) (by decide)
  refine ⟨Kn, _, rfl, .of eK, ?_⟩
  refine ⟨_, rfl, _, rfl, p, _, rfl, s8.same s89, k0, by omega, fun total H10 tot0 tot1 s10 o10 => ?_⟩
  have eC10 := o10 _ _ (s89 _ _ eC8) hCp
  have eW10 := o10 _ _ (s89 _ _ eW8') hWp
  refine ⟨_, rfl, Ca, _, rfl, .inl (.of eC10), fun c1 nc1 => ⟨_, rfl, Wa, _, rfl, .inl (.of (same_upd nc1 _ _ eW10)), fun c2 nc2 => ⟨(by show 2 ≤ sizeLine; decide), fun hd nhd => ?_⟩⟩⟩
  have sc1 := same_upd (o := .lst (ls.map fun x => ov x.1)) nc1
  have sc2 := same_upd (o := .lst (ls.map fun x => V.int x.2)) nc2
  have sh := same_upd (o := .lst [.ref c1, .ref c2]) nhd
  have e1 : (upd (upd (upd H10 c1 (.lst (ls.map fun x => ov x.1))) c2 (.lst (ls.map fun x => V.int x.2))) hd (.lst [.ref c1, .ref c2])) c1 = some (.lst (ls.map fun x => ov x.1)) := sh _ _ (sc2 _ _ upd_same)
  have e2 : (upd (upd (upd H10 c1 (.lst (ls.map fun x => ov x.1))) c2 (.lst (ls.map fun x => V.int x.2))) hd (.lst [.ref c1, .ref c2])) c2 = some (.lst (ls.map fun x => V.int x.2)) := sh _ _ upd_same
  have eh : (upd (upd (upd H10 c1 (.lst (ls.map fun x => ov x.1))) c2 (.lst (ls.map fun x => V.int x.2))) hd (.lst [.ref c1, .ref c2])) hd = some (.lst [.ref c1, .ref c2]) := upd_same
  have s1011 := (sc1.trans sc2).trans sh
  generalize (upd (upd (upd H10 c1 (.lst (ls.map fun x => ov x.1))) c2 (.lst (ls.map fun x => V.int x.2))) hd (.lst [.ref c1, .ref c2])) = H11 at sh e1 e2 eh s1011 ⊢
  refine ⟨_, rfl, _, rfl, hd, _, _, _, rfl, rfl, .of eh, atI_nat (j := 0) rfl, _, rfl, hd, _, _, _, rfl, rfl, .of eh, atI_nat (j := 1) rfl, total, c1, c2, ls, rfl, e1, e2,
    ⟨good, tot0, small_of (by omega), fun x hx => small_of (by have := l0 x hx; omega), small_of (by unfold sumW; omega), by omega⟩, fun Le Lp lvv lv parts H12 nLe nLp dl eLe eLv eLp s12 => ?_⟩
  have eC12 := s12 _ _ (s1011 _ _ eC10)
  have eW12 := s12 _ _ (s1011 _ _ eW10)
  refine ⟨_, rfl, _, rfl, _, rfl, (by show 2 ≤ sizeLine; decide), fun l13 n13 => ?_⟩
  have s13 := same_upd (o := .lst [.ref Ca, .ref Wa]) n13
  have q1 : ∀ {X : Hp} {b : Addr}, X b = some (.lst (ls.map fun x => ov x.1)) → X b = some (.lst (cs.map ov)) := fun h => by rw [ec0]; exact h
  have q2 : ∀ {X : Hp} {b : Addr}, X b = some (.lst (ls.map fun x => V.int x.2)) → X b = some (.lst (ws.map V.int)) := fun h => by rw [ew0]; exact h
  refine ⟨datOI cs ws, datOI cs ws, dp_OI (s13 _ _ (s12 _ _ eh)) (q1 (s13 _ _ (s12 _ _ e1))) (q2 (s13 _ _ (s12 _ _ e2))), dp_OI upd_same (q1 (s13 _ _ eC12)) (q2 (s13 _ _ eW12)), shaped_OI _ _, shaped_OI _ _, false, by rw [eqv_OI]; rfl, iteF ?_⟩
  refine ⟨_, rfl, _, rfl, _, rfl, _, rfl, Le, Ca, Wa, total, ls, rfl, ⟨⟨Lp, lvv, lv, parts, s13 _ _ eLe, lvSame s13 eLv, s13 _ _ eLp, dl⟩, s13 _ _ eC12, s13 _ _ eW12, good, fun x hx => (l0 x hx).2, fun x hx => (wB _ (zm x hx).2).2, by omega, tot0, by omega⟩, fun H14 s14 => ⟨true, rfl, iteF ?_⟩⟩
  refine ⟨⟨_, _, _, _, _, _, _, _, _, _, _, rfl⟩, fun b o hb' => ?_⟩
  have hbp : b ≠ p := ne_of_none (sm _ _ hb') np
  exact s14 _ _ (s13 _ _ (s12 _ _ (s1011 _ _ (o10 _ _ (s89 _ _ (o8 _ _ (o7 _ _ (o56 _ _ (o5 _ _ (o4 _ _ (sm3 _ _ (sm _ _ hb')) hbp) hbp) hbp) hbp) hbp)) hbp))))
end

theorem all_mk {l : PySem.W.OpenLaw} {w : World} {K : PySem.W.Frag} {h : Heap} {mg : Str → Option Value} {fa : Addr} (X : K.In h) (G : h.Ns mainGlobals mg) (hfa : mg "law" = some (.ref fa))
    {f0 f1 f2 f3 f4 f5 f6 f7 f8 f9 f10 f11 f12 f13 f14 f15 f16 f17 f18 f19 f20 f21 f22 f23 f24 f25 f26 f27 : Addr} {od0 an0 od1 an1 od2 an2 od3 an3 od4 an4 od5 an5 od6 an6 od7 an7 od8 an8 od9 an9 od10 an10 od11 an11 od12 an12 od13 an13 od14 an14 od15 an15 od16 an16 od17 an17 od18 an18 od19 an19 od20 an20 od21 an21 od22 an22 od23 an23 od24 an24 od25 an25 od26 an26 od27 an27 : Option Addr} {sl0 sl1 sl2 sl3 sl4 sl5 sl6 sl7 sl8 sl9 sl10 sl11 sl12 sl13 sl14 sl15 sl16 sl17 sl18 sl19 sl20 sl21 sl22 sl23 sl24 sl25 sl26 sl27 : Array (Option Value)}
    {oc0 kV0 dc0 pm0 cd0 ct0 oc1 kV1 dc1 pm1 cd1 ct1 oc2 kV2 dc2 pm2 cd2 ct2 oc3 kV3 dc3 pm3 cd3 ct3 oc4 kV4 dc4 pm4 cd4 ct4 oc5 kV5 dc5 pm5 cd5 ct5 oc6 kV6 dc6 pm6 cd6 ct6 oc7 kV7 dc7 pm7 cd7 ct7 oc8 kV8 dc8 pm8 cd8 ct8 oc9 kV9 dc9 pm9 cd9 ct9 oc10 kV10 dc10 pm10 cd10 ct10 oc11 kV11 dc11 pm11 cd11 ct11 oc12 kV12 dc12 pm12 cd12 ct12 oc13 kV13 dc13 pm13 cd13 ct13 oc14 kV14 dc14 pm14 cd14 ct14 oc15 kV15 dc15 pm15 cd15 ct15 oc16 kV16 dc16 pm16 cd16 ct16 oc17 kV17 dc17 pm17 cd17 ct17 oc18 kV18 dc18 pm18 cd18 ct18 oc19 kV19 dc19 pm19 cd19 ct19 oc20 kV20 dc20 pm20 cd20 ct20 oc21 kV21 dc21 pm21 cd21 ct21 oc22 kV22 dc22 pm22 cd22 ct22 oc23 kV23 dc23 pm23 cd23 ct23 oc24 kV24 dc24 pm24 cd24 ct24 oc25 kV25 dc25 pm25 cd25 ct25 oc26 kV26 dc26 pm26 cd26 ct26 oc27 kV27 dc27 pm27 cd27 ct27 : Value}
    (a0 : PySem.W.nsIn K mainGlobals "is_whole" = some (some (.ref f0))) (l0 : K.lookup f0 = some ⟨oc0, od0, .func (PySem.W.fnOf "is_whole" "is_whole" (defArgs s_p_is_whole) (defBody s_p_is_whole) (defScope s_p_is_whole) .none kV0 dc0 pm0 an0 cd0 ct0), sl0⟩) (c0 : PySem.W.codeIn K cd0 "is_whole" = true) (k0 : PySem.W.keepIn K (.ref f0) = true)
    (a1 : PySem.W.nsIn K mainGlobals "is_count" = some (some (.ref f1))) (l1 : K.lookup f1 = some ⟨oc1, od1, .func (PySem.W.fnOf "is_count" "is_count" (defArgs s_p_is_count) (defBody s_p_is_count) (defScope s_p_is_count) .none kV1 dc1 pm1 an1 cd1 ct1), sl1⟩) (c1 : PySem.W.codeIn K cd1 "is_count" = true) (k1 : PySem.W.keepIn K (.ref f1) = true)
    (a2 : PySem.W.nsIn K mainGlobals "dealt" = some (some (.ref f2))) (l2 : K.lookup f2 = some ⟨oc2, od2, .func (PySem.W.fnOf "dealt" "dealt" (defArgs s_p_dealt) (defBody s_p_dealt) (defScope s_p_dealt) .none kV2 dc2 pm2 an2 cd2 ct2), sl2⟩) (c2 : PySem.W.codeIn K cd2 "dealt" = true) (k2 : PySem.W.keepIn K (.ref f2) = true)
    (a3 : PySem.W.nsIn K mainGlobals "refuse_no_list" = some (some (.ref f3))) (l3 : K.lookup f3 = some ⟨oc3, od3, .func (PySem.W.fnOf "refuse_no_list" "refuse_no_list" (defArgs s_p_refuse_no_list) (defBody s_p_refuse_no_list) (defScope s_p_refuse_no_list) .none kV3 dc3 pm3 an3 cd3 ct3), sl3⟩) (c3 : PySem.W.codeIn K cd3 "refuse_no_list" = true) (k3 : PySem.W.keepIn K (.ref f3) = true)
    (a4 : PySem.W.nsIn K mainGlobals "refuse_no_counts" = some (some (.ref f4))) (l4 : K.lookup f4 = some ⟨oc4, od4, .func (PySem.W.fnOf "refuse_no_counts" "refuse_no_counts" (defArgs s_p_refuse_no_counts) (defBody s_p_refuse_no_counts) (defScope s_p_refuse_no_counts) .none kV4 dc4 pm4 an4 cd4 ct4), sl4⟩) (c4 : PySem.W.codeIn K cd4 "refuse_no_counts" = true) (k4 : PySem.W.keepIn K (.ref f4) = true)
    (a5 : PySem.W.nsIn K mainGlobals "refuse_no_weights" = some (some (.ref f5))) (l5 : K.lookup f5 = some ⟨oc5, od5, .func (PySem.W.fnOf "refuse_no_weights" "refuse_no_weights" (defArgs s_p_refuse_no_weights) (defBody s_p_refuse_no_weights) (defScope s_p_refuse_no_weights) .none kV5 dc5 pm5 an5 cd5 ct5), sl5⟩) (c5 : PySem.W.codeIn K cd5 "refuse_no_weights" = true) (k5 : PySem.W.keepIn K (.ref f5) = true)
    (a6 : PySem.W.nsIn K mainGlobals "by_level" = some (some (.ref f6))) (l6 : K.lookup f6 = some ⟨oc6, od6, .func (PySem.W.fnOf "by_level" "by_level" (defArgs s_p_by_level) (defBody s_p_by_level) (defScope s_p_by_level) .none kV6 dc6 pm6 an6 cd6 ct6), sl6⟩) (c6 : PySem.W.codeIn K cd6 "by_level" = true) (k6 : PySem.W.keepIn K (.ref f6) = true)
    (a7 : PySem.W.nsIn K mainGlobals "unbound" = some (some (.ref f7))) (l7 : K.lookup f7 = some ⟨oc7, od7, .func (PySem.W.fnOf "unbound" "unbound" (defArgs s_p_unbound) (defBody s_p_unbound) (defScope s_p_unbound) .none kV7 dc7 pm7 an7 cd7 ct7), sl7⟩) (c7 : PySem.W.codeIn K cd7 "unbound" = true) (k7 : PySem.W.keepIn K (.ref f7) = true)
    (a8 : PySem.W.nsIn K mainGlobals "cap_binds" = some (some (.ref f8))) (l8 : K.lookup f8 = some ⟨oc8, od8, .func (PySem.W.fnOf "cap_binds" "cap_binds" (defArgs s_p_cap_binds) (defBody s_p_cap_binds) (defScope s_p_cap_binds) .none kV8 dc8 pm8 an8 cd8 ct8), sl8⟩) (c8 : PySem.W.codeIn K cd8 "cap_binds" = true) (k8 : PySem.W.keepIn K (.ref f8) = true)
    (a9 : PySem.W.nsIn K mainGlobals "running_parts" = some (some (.ref f9))) (l9 : K.lookup f9 = some ⟨oc9, od9, .func (PySem.W.fnOf "running_parts" "running_parts" (defArgs s_p_running_parts) (defBody s_p_running_parts) (defScope s_p_running_parts) .none kV9 dc9 pm9 an9 cd9 ct9), sl9⟩) (c9 : PySem.W.codeIn K cd9 "running_parts" = true) (k9 : PySem.W.keepIn K (.ref f9) = true)
    (a10 : PySem.W.nsIn K mainGlobals "in_lowest_terms" = some (some (.ref f10))) (l10 : K.lookup f10 = some ⟨oc10, od10, .func (PySem.W.fnOf "in_lowest_terms" "in_lowest_terms" (defArgs s_p_in_lowest_terms) (defBody s_p_in_lowest_terms) (defScope s_p_in_lowest_terms) .none kV10 dc10 pm10 an10 cd10 ct10), sl10⟩) (c10 : PySem.W.codeIn K cd10 "in_lowest_terms" = true) (k10 : PySem.W.keepIn K (.ref f10) = true)
    (a11 : PySem.W.nsIn K mainGlobals "_law_cell_at" = some (some (.ref f11))) (l11 : K.lookup f11 = some ⟨oc11, od11, .func (PySem.W.fnOf "_law_cell_at" "_law_cell_at" (defArgs s_cell_at) (defBody s_cell_at) (defScope s_cell_at) .none kV11 dc11 pm11 an11 cd11 ct11), sl11⟩) (c11 : PySem.W.codeIn K cd11 "_law_cell_at" = true) (k11 : PySem.W.keepIn K (.ref f11) = true)
    (a12 : PySem.W.nsIn K mainGlobals "_law_mixed" = some (some (.ref f12))) (l12 : K.lookup f12 = some ⟨oc12, od12, .func (PySem.W.fnOf "_law_mixed" "_law_mixed" (defArgs s_mixed) (defBody s_mixed) (defScope s_mixed) .none kV12 dc12 pm12 an12 cd12 ct12), sl12⟩) (c12 : PySem.W.codeIn K cd12 "_law_mixed" = true) (k12 : PySem.W.keepIn K (.ref f12) = true)
    (a13 : PySem.W.nsIn K mainGlobals "_law_source" = some (some (.ref f13))) (l13 : K.lookup f13 = some ⟨oc13, od13, .func (PySem.W.fnOf "_law_source" "_law_source" (defArgs s_source) (defBody s_source) (defScope s_source) .none kV13 dc13 pm13 an13 cd13 ct13), sl13⟩) (c13 : PySem.W.codeIn K cd13 "_law_source" = true) (k13 : PySem.W.keepIn K (.ref f13) = true)
    (a14 : PySem.W.nsIn K mainGlobals "_law_next" = some (some (.ref f14))) (l14 : K.lookup f14 = some ⟨oc14, od14, .func (PySem.W.fnOf "_law_next" "_law_next" (defArgs s_next) (defBody s_next) (defScope s_next) .none kV14 dc14 pm14 an14 cd14 ct14), sl14⟩) (c14 : PySem.W.codeIn K cd14 "_law_next" = true) (k14 : PySem.W.keepIn K (.ref f14) = true)
    (a15 : PySem.W.nsIn K mainGlobals "_law_upto" = some (some (.ref f15))) (l15 : K.lookup f15 = some ⟨oc15, od15, .func (PySem.W.fnOf "_law_upto" "_law_upto" (defArgs s_upto) (defBody s_upto) (defScope s_upto) .none kV15 dc15 pm15 an15 cd15 ct15), sl15⟩) (c15 : PySem.W.codeIn K cd15 "_law_upto" = true) (k15 : PySem.W.keepIn K (.ref f15) = true)
    (a16 : PySem.W.nsIn K mainGlobals "_law_some" = some (some (.ref f16))) (l16 : K.lookup f16 = some ⟨oc16, od16, .func (PySem.W.fnOf "_law_some" "_law_some" (defArgs s_some) (defBody s_some) (defScope s_some) .none kV16 dc16 pm16 an16 cd16 ct16), sl16⟩) (c16 : PySem.W.codeIn K cd16 "_law_some" = true) (k16 : PySem.W.keepIn K (.ref f16) = true)
    (a17 : PySem.W.nsIn K mainGlobals "_law_weights" = some (some (.ref f17))) (l17 : K.lookup f17 = some ⟨oc17, od17, .func (PySem.W.fnOf "_law_weights" "_law_weights" (defArgs s_weights) (defBody s_weights) (defScope s_weights) .none kV17 dc17 pm17 an17 cd17 ct17), sl17⟩) (c17 : PySem.W.codeIn K cd17 "_law_weights" = true) (k17 : PySem.W.keepIn K (.ref f17) = true)
    (a18 : PySem.W.nsIn K mainGlobals "_law_many" = some (some (.ref f18))) (l18 : K.lookup f18 = some ⟨oc18, od18, .func (PySem.W.fnOf "_law_many" "_law_many" (defArgs s_many) (defBody s_many) (defScope s_many) .none kV18 dc18 pm18 an18 cd18 ct18), sl18⟩) (c18 : PySem.W.codeIn K cd18 "_law_many" = true) (k18 : PySem.W.keepIn K (.ref f18) = true)
    (a19 : PySem.W.nsIn K mainGlobals "_law_total" = some (some (.ref f19))) (l19 : K.lookup f19 = some ⟨oc19, od19, .func (PySem.W.fnOf "_law_total" "_law_total" (defArgs s_total) (defBody s_total) (defScope s_total) .none kV19 dc19 pm19 an19 cd19 ct19), sl19⟩) (c19 : PySem.W.codeIn K cd19 "_law_total" = true) (k19 : PySem.W.keepIn K (.ref f19) = true)
    (a20 : PySem.W.nsIn K mainGlobals "_law_shared" = some (some (.ref f20))) (l20 : K.lookup f20 = some ⟨oc20, od20, .func (PySem.W.fnOf "_law_shared" "_law_shared" (defArgs s_shared) (defBody s_shared) (defScope s_shared) .none kV20 dc20 pm20 an20 cd20 ct20), sl20⟩) (c20 : PySem.W.codeIn K cd20 "_law_shared" = true) (k20 : PySem.W.keepIn K (.ref f20) = true)
    (a21 : PySem.W.nsIn K mainGlobals "_law_whole" = some (some (.ref f21))) (l21 : K.lookup f21 = some ⟨oc21, od21, .func (PySem.W.fnOf "_law_whole" "_law_whole" (defArgs s_whole) (defBody s_whole) (defScope s_whole) .none kV21 dc21 pm21 an21 cd21 ct21), sl21⟩) (c21 : PySem.W.codeIn K cd21 "_law_whole" = true) (k21 : PySem.W.keepIn K (.ref f21) = true)
    (a22 : PySem.W.nsIn K mainGlobals "_law_kinds" = some (some (.ref f22))) (l22 : K.lookup f22 = some ⟨oc22, od22, .func (PySem.W.fnOf "_law_kinds" "_law_kinds" (defArgs s_kinds) (defBody s_kinds) (defScope s_kinds) .none kV22 dc22 pm22 an22 cd22 ct22), sl22⟩) (c22 : PySem.W.codeIn K cd22 "_law_kinds" = true) (k22 : PySem.W.keepIn K (.ref f22) = true)
    (a23 : PySem.W.nsIn K mainGlobals "_law_lesser" = some (some (.ref f23))) (l23 : K.lookup f23 = some ⟨oc23, od23, .func (PySem.W.fnOf "_law_lesser" "_law_lesser" (defArgs s_lesser) (defBody s_lesser) (defScope s_lesser) .none kV23 dc23 pm23 an23 cd23 ct23), sl23⟩) (c23 : PySem.W.codeIn K cd23 "_law_lesser" = true) (k23 : PySem.W.keepIn K (.ref f23) = true)
    (a24 : PySem.W.nsIn K mainGlobals "_law_rest_right" = some (some (.ref f24))) (l24 : K.lookup f24 = some ⟨oc24, od24, .func (PySem.W.fnOf "_law_rest_right" "_law_rest_right" (defArgs s_rest_right) (defBody s_rest_right) (defScope s_rest_right) .none kV24 dc24 pm24 an24 cd24 ct24), sl24⟩) (c24 : PySem.W.codeIn K cd24 "_law_rest_right" = true) (k24 : PySem.W.keepIn K (.ref f24) = true)
    (a25 : PySem.W.nsIn K mainGlobals "_law_right" = some (some (.ref f25))) (l25 : K.lookup f25 = some ⟨oc25, od25, .func (PySem.W.fnOf "_law_right" "_law_right" (defArgs s_right) (defBody s_right) (defScope s_right) .none kV25 dc25 pm25 an25 cd25 ct25), sl25⟩) (c25 : PySem.W.codeIn K cd25 "_law_right" = true) (k25 : PySem.W.keepIn K (.ref f25) = true)
    (a26 : PySem.W.nsIn K mainGlobals "_law_nought" = some (some (.ref f26))) (l26 : K.lookup f26 = some ⟨oc26, od26, .func (PySem.W.fnOf "_law_nought" "_law_nought" (defArgs s_nought) (defBody s_nought) (defScope s_nought) .none kV26 dc26 pm26 an26 cd26 ct26), sl26⟩) (c26 : PySem.W.codeIn K cd26 "_law_nought" = true) (k26 : PySem.W.keepIn K (.ref f26) = true)
    (a27 : PySem.W.nsIn K mainGlobals "law" = some (some (.ref f27))) (l27 : K.lookup f27 = some ⟨oc27, od27, .func (PySem.W.fnOf "law" "law" (defArgs s_law) (defBody s_law) (defScope s_law) .none kV27 dc27 pm27 an27 cd27 ct27), sl27⟩) (c27 : PySem.W.codeIn K cd27 "law" = true) (k27 : PySem.W.keepIn K (.ref f27) = true)
    (z_isinstance : PySem.W.nsIn K mainGlobals "isinstance" = some none)
    (z_int : PySem.W.nsIn K mainGlobals "int" = some none)
    (z_bool : PySem.W.nsIn K mainGlobals "bool" = some none)
    (z_len : PySem.W.nsIn K mainGlobals "len" = some none)
    (z_zip : PySem.W.nsIn K mainGlobals "zip" = some none)
    (z_sum : PySem.W.nsIn K mainGlobals "sum" = some none)
    (z_list : PySem.W.nsIn K mainGlobals "list" = some none)
    (z_enumerate : PySem.W.nsIn K mainGlobals "enumerate" = some none)
    (z_range : PySem.W.nsIn K mainGlobals "range" = some none)
    (z_min : PySem.W.nsIn K mainGlobals "min" = some none)
    (z_max : PySem.W.nsIn K mainGlobals "max" = some none)
    (z_tuple : PySem.W.nsIn K mainGlobals "tuple" = some none)
    (z_all : PySem.W.nsIn K mainGlobals "all" = some none) :
    ∃ fd : FuncData, (∀ (s : Shared) (v : Value), BindsTo s fd ⟨[v], []⟩ [("_law_script", v)]) ∧ ∀ base : Heap, K.In base → base.Ns mainGlobals mg → FnOk l.prog w K mg base CX0 7 fa fd ["_law_script"] (spLaw K) := by
  have e := hfa.symm.trans (PySem.W.mg_of X G a27)
  cases e
  have H0 : Has K mg "is_whole" s_p_is_whole ["thing"] := has_mk (fun_mk (st := s_p_is_whole) l0 c0 k0) (PySem.W.mg_of X G a0) (fun _ _ _ _ _ _ us hl => match us, hl with | [_], _ => rfl)
  have H1 : Has K mg "is_count" s_p_is_count ["thing"] := has_mk (fun_mk (st := s_p_is_count) l1 c1 k1) (PySem.W.mg_of X G a1) (fun _ _ _ _ _ _ us hl => match us, hl with | [_], _ => rfl)
  have H2 : Has K mg "dealt" s_p_dealt ["total", "caps", "weights"] := has_mk (fun_mk (st := s_p_dealt) l2 c2 k2) (PySem.W.mg_of X G a2) (fun _ _ _ _ _ _ us hl => match us, hl with | [_, _, _], _ => rfl)
  have H3 : Has K mg "refuse_no_list" s_p_refuse_no_list ["thing"] := has_mk (fun_mk (st := s_p_refuse_no_list) l3 c3 k3) (PySem.W.mg_of X G a3) (fun _ _ _ _ _ _ us hl => match us, hl with | [_], _ => rfl)
  have H4 : Has K mg "refuse_no_counts" s_p_refuse_no_counts ["things"] := has_mk (fun_mk (st := s_p_refuse_no_counts) l4 c4 k4) (PySem.W.mg_of X G a4) (fun _ _ _ _ _ _ us hl => match us, hl with | [_], _ => rfl)
  have H5 : Has K mg "refuse_no_weights" s_p_refuse_no_weights ["weights", "many"] := has_mk (fun_mk (st := s_p_refuse_no_weights) l5 c5 k5) (PySem.W.mg_of X G a5) (fun _ _ _ _ _ _ us hl => match us, hl with | [_, _], _ => rfl)
  have H6 : Has K mg "by_level" s_p_by_level ["total", "limits", "weights", "binds"] := has_mk (fun_mk (st := s_p_by_level) l6 c6 k6) (PySem.W.mg_of X G a6) (fun _ _ _ _ _ _ us hl => match us, hl with | [_, _, _, _], _ => rfl)
  have H7 : Has K mg "unbound" s_p_unbound ["total", "limits", "weights", "binds"] := has_mk (fun_mk (st := s_p_unbound) l7 c7 k7) (PySem.W.mg_of X G a7) (fun _ _ _ _ _ _ us hl => match us, hl with | [_, _, _, _], _ => rfl)
  have H8 : Has K mg "cap_binds" s_p_cap_binds ["cap", "weight", "top", "bottom"] := has_mk (fun_mk (st := s_p_cap_binds) l8 c8 k8) (PySem.W.mg_of X G a8) (fun _ _ _ _ _ _ us hl => match us, hl with | [_, _, _, _], _ => rfl)
  have H9 : Has K mg "running_parts" s_p_running_parts ["room", "weights"] := has_mk (fun_mk (st := s_p_running_parts) l9 c9 k9) (PySem.W.mg_of X G a9) (fun _ _ _ _ _ _ us hl => match us, hl with | [_, _], _ => rfl)
  have H10 : Has K mg "in_lowest_terms" s_p_in_lowest_terms ["top", "bottom"] := has_mk (fun_mk (st := s_p_in_lowest_terms) l10 c10 k10) (PySem.W.mg_of X G a10) (fun _ _ _ _ _ _ us hl => match us, hl with | [_, _], _ => rfl)
  have H11 : Has K mg "_law_cell_at" s_cell_at ["_law_script", "_law_k"] := has_mk (fun_mk (st := s_cell_at) l11 c11 k11) (PySem.W.mg_of X G a11) (fun _ _ _ _ _ _ us hl => match us, hl with | [_, _], _ => rfl)
  have H12 : Has K mg "_law_mixed" s_mixed ["_law_cell", "_law_k"] := has_mk (fun_mk (st := s_mixed) l12 c12 k12) (PySem.W.mg_of X G a12) (fun _ _ _ _ _ _ us hl => match us, hl with | [_, _], _ => rfl)
  have H13 : Has K mg "_law_source" s_source ["_law_cell"] := has_mk (fun_mk (st := s_source) l13 c13 k13) (PySem.W.mg_of X G a13) (fun _ _ _ _ _ _ us hl => match us, hl with | [_], _ => rfl)
  have H14 : Has K mg "_law_next" s_next ["_law_source_here", "_law_many_here"] := has_mk (fun_mk (st := s_next) l14 c14 k14) (PySem.W.mg_of X G a14) (fun _ _ _ _ _ _ us hl => match us, hl with | [_, _], _ => rfl)
  have H15 : Has K mg "_law_upto" s_upto ["_law_source_here", "_law_far"] := has_mk (fun_mk (st := s_upto) l15 c15 k15) (PySem.W.mg_of X G a15) (fun _ _ _ _ _ _ us hl => match us, hl with | [_, _], _ => rfl)
  have H16 : Has K mg "_law_some" s_some ["_law_source_here", "_law_far", "_law_near", "_law_many_here"] := has_mk (fun_mk (st := s_some) l16 c16 k16) (PySem.W.mg_of X G a16) (fun _ _ _ _ _ _ us hl => match us, hl with | [_, _, _, _], _ => rfl)
  have H17 : Has K mg "_law_weights" s_weights ["_law_source_here", "_law_many_here"] := has_mk (fun_mk (st := s_weights) l17 c17 k17) (PySem.W.mg_of X G a17) (fun _ _ _ _ _ _ us hl => match us, hl with | [_, _], _ => rfl)
  have H18 : Has K mg "_law_many" s_many ["_law_source_here"] := has_mk (fun_mk (st := s_many) l18 c18 k18) (PySem.W.mg_of X G a18) (fun _ _ _ _ _ _ us hl => match us, hl with | [_], _ => rfl)
  have H19 : Has K mg "_law_total" s_total ["_law_source_here", "_law_most"] := has_mk (fun_mk (st := s_total) l19 c19 k19) (PySem.W.mg_of X G a19) (fun _ _ _ _ _ _ us hl => match us, hl with | [_, _], _ => rfl)
  have H20 : Has K mg "_law_shared" s_shared ["_law_one", "_law_other"] := has_mk (fun_mk (st := s_shared) l20 c20 k20) (PySem.W.mg_of X G a20) (fun _ _ _ _ _ _ us hl => match us, hl with | [_, _], _ => rfl)
  have H21 : Has K mg "_law_whole" s_whole ["_law_found"] := has_mk (fun_mk (st := s_whole) l21 c21 k21) (PySem.W.mg_of X G a21) (fun _ _ _ _ _ _ us hl => match us, hl with | [_], _ => rfl)
  have H22 : Has K mg "_law_kinds" s_kinds ["_law_found", "_law_many_here"] := has_mk (fun_mk (st := s_kinds) l22 c22 k22) (PySem.W.mg_of X G a22) (fun _ _ _ _ _ _ us hl => match us, hl with | [_, _], _ => rfl)
  have H23 : Has K mg "_law_lesser" s_lesser ["_law_cap", "_law_part", "_law_bottom"] := has_mk (fun_mk (st := s_lesser) l23 c23 k23) (PySem.W.mg_of X G a23) (fun _ _ _ _ _ _ us hl => match us, hl with | [_, _, _], _ => rfl)
  have H24 : Has K mg "_law_rest_right" s_rest_right ["_law_told", "_law_caps", "_law_weights_here", "_law_top", "_law_bottom"] := has_mk (fun_mk (st := s_rest_right) l24 c24 k24) (PySem.W.mg_of X G a24) (fun _ _ _ _ _ _ us hl => match us, hl with | [_, _, _, _, _], _ => rfl)
  have H25 : Has K mg "_law_right" s_right ["_law_found", "_law_total_here", "_law_caps", "_law_weights_here"] := has_mk (fun_mk (st := s_right) l25 c25 k25) (PySem.W.mg_of X G a25) (fun _ _ _ _ _ _ us hl => match us, hl with | [_, _, _, _], _ => rfl)
  have H26 : Has K mg "_law_nought" s_nought ["_law_caps"] := has_mk (fun_mk (st := s_nought) l26 c26 k26) (PySem.W.mg_of X G a26) (fun _ _ _ _ _ _ us hl => match us, hl with | [_], _ => rfl)
  have T : Txt K mg := ⟨H0, H1, H2, H3, H4, H5, H6, H7, H8, H9, H10, H11, H12, H13, H14, H15, H16, H17, H18, H19, H20, H21, H22, H23, H24, H25, H26, PySem.W.mg_none_of X G z_isinstance, PySem.W.mg_none_of X G z_int, PySem.W.mg_none_of X G z_bool, PySem.W.mg_none_of X G z_len, PySem.W.mg_none_of X G z_zip, PySem.W.mg_none_of X G z_sum, PySem.W.mg_none_of X G z_list, PySem.W.mg_none_of X G z_enumerate, PySem.W.mg_none_of X G z_range, PySem.W.mg_none_of X G z_min, PySem.W.mg_none_of X G z_max, PySem.W.mg_none_of X G z_tuple, PySem.W.mg_none_of X G z_all⟩
  exact ⟨_, fun s v => .of_eq rfl, fun base _ _ => ok_law (fun_mk (st := s_law) l27 c27 k27) T⟩
end K03
open PySem PySem.W PyProof.Rows
set_option maxRecDepth 100000 in
set_option maxHeartbeats 0 in
theorem PySem.Challenge.cw_nestlaid_k03_dealt_to_caps_holds : PySem.Challenge.rw_nestlaid_k03_dealt_to_caps.Holds := by
  w_on; o_law; k_head; (case hw => w_witness2)
  k_fill
  refine L2.walk_of (l := PySem.Challenge.rw_nestlaid_k03_dealt_to_caps) (n := 63) (k := 7) (x := "_law_script") (CX := fun _ => L2.CX0) (sp := fun w => K03.spLaw _) rfl (by decide) rfl ⟨rfl, by decide, by decide⟩ (fun w h Y => PySem.W.kIn_of Y) ?F (fun _ _ a ns hl _ hS => ⟨a, ns, rfl, hS, hl, fun _ => rfl⟩) (fun _ _ _ _ _ h => h)
  case F =>
    intro w mg fa h KX G hmg
    refine' K03.all_mk KX G hmg ?a0 ?l0 ?c0 ?k0 ?a1 ?l1 ?c1 ?k1 ?a2 ?l2 ?c2 ?k2 ?a3 ?l3 ?c3 ?k3 ?a4 ?l4 ?c4 ?k4 ?a5 ?l5 ?c5 ?k5 ?a6 ?l6 ?c6 ?k6 ?a7 ?l7 ?c7 ?k7 ?a8 ?l8 ?c8 ?k8 ?a9 ?l9 ?c9 ?k9 ?a10 ?l10 ?c10 ?k10 ?a11 ?l11 ?c11 ?k11 ?a12 ?l12 ?c12 ?k12 ?a13 ?l13 ?c13 ?k13 ?a14 ?l14 ?c14 ?k14 ?a15 ?l15 ?c15 ?k15 ?a16 ?l16 ?c16 ?k16 ?a17 ?l17 ?c17 ?k17 ?a18 ?l18 ?c18 ?k18 ?a19 ?l19 ?c19 ?k19 ?a20 ?l20 ?c20 ?k20 ?a21 ?l21 ?c21 ?k21 ?a22 ?l22 ?c22 ?k22 ?a23 ?l23 ?c23 ?k23 ?a24 ?l24 ?c24 ?k24 ?a25 ?l25 ?c25 ?k25 ?a26 ?l26 ?c26 ?k26 ?a27 ?l27 ?c27 ?k27 ?z_isinstance ?z_int ?z_bool ?z_len ?z_zip ?z_sum ?z_list ?z_enumerate ?z_range ?z_min ?z_max ?z_tuple ?z_all
    (case a0 => k_is); (case l0 => k_is); (case c0 => k_is); (case k0 => k_is)
    (case a1 => k_is); (case l1 => k_is); (case c1 => k_is); (case k1 => k_is)
    (case a2 => k_is); (case l2 => k_is); (case c2 => k_is); (case k2 => k_is)
    (case a3 => k_is); (case l3 => k_is); (case c3 => k_is); (case k3 => k_is)
    (case a4 => k_is); (case l4 => k_is); (case c4 => k_is); (case k4 => k_is)
    (case a5 => k_is); (case l5 => k_is); (case c5 => k_is); (case k5 => k_is)
    (case a6 => k_is); (case l6 => k_is); (case c6 => k_is); (case k6 => k_is)
    (case a7 => k_is); (case l7 => k_is); (case c7 => k_is); (case k7 => k_is)
    (case a8 => k_is); (case l8 => k_is); (case c8 => k_is); (case k8 => k_is)
    (case a9 => k_is); (case l9 => k_is); (case c9 => k_is); (case k9 => k_is)
    (case a10 => k_is); (case l10 => k_is); (case c10 => k_is); (case k10 => k_is)
    (case a11 => k_is); (case l11 => k_is); (case c11 => k_is); (case k11 => k_is)
    (case a12 => k_is); (case l12 => k_is); (case c12 => k_is); (case k12 => k_is)
    (case a13 => k_is); (case l13 => k_is); (case c13 => k_is); (case k13 => k_is)
    (case a14 => k_is); (case l14 => k_is); (case c14 => k_is); (case k14 => k_is)
    (case a15 => k_is); (case l15 => k_is); (case c15 => k_is); (case k15 => k_is)
    (case a16 => k_is); (case l16 => k_is); (case c16 => k_is); (case k16 => k_is)
    (case a17 => k_is); (case l17 => k_is); (case c17 => k_is); (case k17 => k_is)
    (case a18 => k_is); (case l18 => k_is); (case c18 => k_is); (case k18 => k_is)
    (case a19 => k_is); (case l19 => k_is); (case c19 => k_is); (case k19 => k_is)
    (case a20 => k_is); (case l20 => k_is); (case c20 => k_is); (case k20 => k_is)
    (case a21 => k_is); (case l21 => k_is); (case c21 => k_is); (case k21 => k_is)
    (case a22 => k_is); (case l22 => k_is); (case c22 => k_is); (case k22 => k_is)
    (case a23 => k_is); (case l23 => k_is); (case c23 => k_is); (case k23 => k_is)
    (case a24 => k_is); (case l24 => k_is); (case c24 => k_is); (case k24 => k_is)
    (case a25 => k_is); (case l25 => k_is); (case c25 => k_is); (case k25 => k_is)
    (case a26 => k_is); (case l26 => k_is); (case c26 => k_is); (case k26 => k_is)
    (case a27 => k_is); (case l27 => k_is); (case c27 => k_is); (case k27 => k_is)
    (case z_isinstance => k_is); (case z_int => k_is); (case z_bool => k_is); (case z_len => k_is)
    (case z_zip => k_is); (case z_sum => k_is); (case z_list => k_is); (case z_enumerate => k_is)
    (case z_range => k_is); (case z_min => k_is); (case z_max => k_is); (case z_tuple => k_is)
    (case z_all => k_is)
