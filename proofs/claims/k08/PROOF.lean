import PyProof.Rows.All
import Wide.All
import OpenK.AllK
import Wide.FinOn
import HandS.ForMost
import HandS.ForExc
import HandS.Wide
import HandS.Defaults
import HandS.IsInst
import HandS.FStr
import HandS.Walk
import HandS.CallLocal
import HandS.Evl
import HandS.Deep
import PySem.Challenge.RW_nestlaid_k08_whole_totals_rise
set_option Elab.async false
set_option linter.all false
set_option maxRecDepth 100000
set_option maxHeartbeats 4000000

namespace K08
open PySem PySem.Spec PyProof.Rows L2
def topS (i : Nat) : Stmt := PySem.Challenge.pw_nestlaid_k08_whole_totals_rise.main.body.getD i (.Pass ⟨0, 0, 0, 0⟩)
abbrev s_p_is_whole : Stmt := topS 4
abbrev s_p_is_count : Stmt := topS 5
abbrev s_p_dealt : Stmt := topS 6
abbrev s_p_levelled : Stmt := topS 7
abbrev s_p_refuse_no_list : Stmt := topS 8
abbrev s_p_refuse_no_counts : Stmt := topS 9
abbrev s_p_refuse_no_weights : Stmt := topS 10
abbrev s_p_by_level : Stmt := topS 11
abbrev s_p_unbound : Stmt := topS 12
abbrev s_p_cap_binds : Stmt := topS 13
abbrev s_p_floor_binds : Stmt := topS 14
abbrev s_p_running_parts : Stmt := topS 15
abbrev s_p_in_lowest_terms : Stmt := topS 16
abbrev s_cell_at : Stmt := topS 18
abbrev s_mixed : Stmt := topS 19
abbrev s_source : Stmt := topS 20
abbrev s_next : Stmt := topS 21
abbrev s_case : Stmt := topS 22
abbrev s_totals : Stmt := topS 23
abbrev s_asked : Stmt := topS 24
abbrev s_rises : Stmt := topS 25
abbrev s_pieces_right : Stmt := topS 26
abbrev s_stay_right : Stmt := topS 27
abbrev s_law : Stmt := topS 28
abbrev n_p_is_whole : List Str := ["thing"]
theorem sc_p_is_whole : FnScope n_p_is_whole ["thing"] (defScope s_p_is_whole) := ⟨rfl, rfl, rfl, by decide +kernel, rfl, by decide +kernel, by decide +kernel⟩
abbrev n_p_is_count : List Str := ["thing"]
theorem sc_p_is_count : FnScope n_p_is_count ["thing"] (defScope s_p_is_count) := ⟨rfl, rfl, rfl, by decide +kernel, rfl, by decide +kernel, by decide +kernel⟩
abbrev n_p_dealt : List Str := ["total", "caps", "weights", "cap", "limits", "weight"]
theorem sc_p_dealt : FnScope n_p_dealt ["total", "caps", "weights"] (defScope s_p_dealt) := ⟨rfl, rfl, rfl, by decide +kernel, rfl, by decide +kernel, by decide +kernel⟩
abbrev n_p_levelled : List Str := ["total", "floors", "weights"]
theorem sc_p_levelled : FnScope n_p_levelled ["total", "floors", "weights"] (defScope s_p_levelled) := ⟨rfl, rfl, rfl, by decide +kernel, rfl, by decide +kernel, by decide +kernel⟩
abbrev n_p_refuse_no_list : List Str := ["thing"]
theorem sc_p_refuse_no_list : FnScope n_p_refuse_no_list ["thing"] (defScope s_p_refuse_no_list) := ⟨rfl, rfl, rfl, by decide +kernel, rfl, by decide +kernel, by decide +kernel⟩
abbrev n_p_refuse_no_counts : List Str := ["things", "thing"]
theorem sc_p_refuse_no_counts : FnScope n_p_refuse_no_counts ["things"] (defScope s_p_refuse_no_counts) := ⟨rfl, rfl, rfl, by decide +kernel, rfl, by decide +kernel, by decide +kernel⟩
abbrev n_p_refuse_no_weights : List Str := ["weights", "many"]
theorem sc_p_refuse_no_weights : FnScope n_p_refuse_no_weights ["weights", "many"] (defScope s_p_refuse_no_weights) := ⟨rfl, rfl, rfl, by decide +kernel, rfl, by decide +kernel, by decide +kernel⟩
abbrev n_p_by_level : List Str := ["total", "limits", "weights", "binds", "free", "room", "whole_weight", "parts", "at", "part", "place"]
theorem sc_p_by_level : FnScope n_p_by_level ["total", "limits", "weights", "binds"] (defScope s_p_by_level) := ⟨rfl, rfl, rfl, by decide +kernel, rfl, by decide +kernel, by decide +kernel⟩
abbrev n_p_unbound : List Str := ["total", "limits", "weights", "binds", "free", "at", "weight", "room", "limit", "whole_weight", "bound"]
theorem sc_p_unbound : FnScope n_p_unbound ["total", "limits", "weights", "binds"] (defScope s_p_unbound) := ⟨rfl, rfl, rfl, by decide +kernel, rfl, by decide +kernel, by decide +kernel⟩
abbrev n_p_cap_binds : List Str := ["cap", "weight", "top", "bottom"]
theorem sc_p_cap_binds : FnScope n_p_cap_binds ["cap", "weight", "top", "bottom"] (defScope s_p_cap_binds) := ⟨rfl, rfl, rfl, by decide +kernel, rfl, by decide +kernel, by decide +kernel⟩
abbrev n_p_floor_binds : List Str := ["floor", "weight", "top", "bottom"]
theorem sc_p_floor_binds : FnScope n_p_floor_binds ["floor", "weight", "top", "bottom"] (defScope s_p_floor_binds) := ⟨rfl, rfl, rfl, by decide +kernel, rfl, by decide +kernel, by decide +kernel⟩
abbrev n_p_running_parts : List Str := ["room", "weights", "whole", "parts", "weight_so_far", "dealt_so_far", "weight", "dealt_now"]
theorem sc_p_running_parts : FnScope n_p_running_parts ["room", "weights"] (defScope s_p_running_parts) := ⟨rfl, rfl, rfl, by decide +kernel, rfl, by decide +kernel, by decide +kernel⟩
abbrev n_p_in_lowest_terms : List Str := ["top", "bottom", "divisor", "rest"]
theorem sc_p_in_lowest_terms : FnScope n_p_in_lowest_terms ["top", "bottom"] (defScope s_p_in_lowest_terms) := ⟨rfl, rfl, rfl, by decide +kernel, rfl, by decide +kernel, by decide +kernel⟩
abbrev n_cell_at : List Str := ["_law_script", "_law_k"]
theorem sc_cell_at : FnScope n_cell_at ["_law_script", "_law_k"] (defScope s_cell_at) := ⟨rfl, rfl, rfl, by decide +kernel, rfl, by decide +kernel, by decide +kernel⟩
abbrev n_mixed : List Str := ["_law_cell", "_law_k", "_law_low"]
theorem sc_mixed : FnScope n_mixed ["_law_cell", "_law_k"] (defScope s_mixed) := ⟨rfl, rfl, rfl, by decide +kernel, rfl, by decide +kernel, by decide +kernel⟩
abbrev n_source : List Str := ["_law_cell"]
theorem sc_source : FnScope n_source ["_law_cell"] (defScope s_source) := ⟨rfl, rfl, rfl, by decide +kernel, rfl, by decide +kernel, by decide +kernel⟩
abbrev n_next : List Str := ["_law_source_here", "_law_many", "_law_found"]
theorem sc_next : FnScope n_next ["_law_source_here", "_law_many"] (defScope s_next) := ⟨rfl, rfl, rfl, by decide +kernel, rfl, by decide +kernel, by decide +kernel⟩
abbrev n_case : List Str := ["_law_source_here", "_law_many", "_law_far", "_law_loads", "_law_k"]
theorem sc_case : FnScope n_case ["_law_source_here"] (defScope s_case) := ⟨rfl, rfl, rfl, by decide +kernel, rfl, by decide +kernel, by decide +kernel⟩
abbrev n_totals : List Str := ["_law_source_here", "_law_bounds", "_law_some", "_law_found", "_law_k"]
theorem sc_totals : FnScope n_totals ["_law_source_here", "_law_bounds"] (defScope s_totals) := ⟨rfl, rfl, rfl, by decide +kernel, rfl, by decide +kernel, by decide +kernel⟩
abbrev n_asked : List Str := ["_law_kind", "_law_amount", "_law_bounds", "_law_loads", "_law_handed", "_law_found", "_law_kept", "_law_again"]
theorem sc_asked : FnScope n_asked ["_law_kind", "_law_amount", "_law_bounds", "_law_loads"] (defScope s_asked) := ⟨rfl, rfl, rfl, by decide +kernel, rfl, by decide +kernel, by decide +kernel⟩
abbrev n_rises : List Str := ["_law_kind", "_law_one", "_law_other"]
theorem sc_rises : FnScope n_rises ["_law_kind", "_law_one", "_law_other"] (defScope s_rises) := ⟨rfl, rfl, rfl, by decide +kernel, rfl, by decide +kernel, by decide +kernel⟩
abbrev n_pieces_right : List Str := ["_law_kind", "_law_amount", "_law_bounds", "_law_found", "_law_got", "_law_bound"]
theorem sc_pieces_right : FnScope n_pieces_right ["_law_kind", "_law_amount", "_law_bounds", "_law_found"] (defScope s_pieces_right) := ⟨rfl, rfl, rfl, by decide +kernel, rfl, by decide +kernel, by decide +kernel⟩
abbrev n_stay_right : List Str := ["_law_kind", "_law_bounds", "_law_loads", "_law_less", "_law_more", "_law_first", "_law_second", "_law_top", "_law_bottom", "_law_at", "_law_bound", "_law_far"]
theorem sc_stay_right : FnScope n_stay_right ["_law_kind", "_law_bounds", "_law_loads", "_law_less", "_law_more"] (defScope s_stay_right) := ⟨rfl, rfl, rfl, by decide +kernel, rfl, by decide +kernel, by decide +kernel⟩
abbrev n_law : List Str := ["_law_script", "_law_cell", "_law_source_here", "_law_kind", "_law_some", "_law_bounds", "_law_loads", "_law_totals_here", "_law_bound", "_law_found", "_law_amount", "_law_one", "_law_less", "_law_more"]
theorem sc_law : FnScope n_law ["_law_script"] (defScope s_law) := ⟨rfl, rfl, rfl, by decide +kernel, rfl, by decide +kernel, by decide +kernel⟩
/-! ### what is known of a def of the top, and of a def that keeps its promise -/
structure Has (K : PySem.W.Frag) (mg : Str → Option Value) (x : Str) (st : Stmt) (ps : List Str) : Prop where
  ex : ∃ f fd, Fun K x x st f fd ∧ mg x = some (.ref f) ∧ Binds K fd ps []
structure Ok (P : Program) (w : World) (K : PySem.W.Frag) (mg : Str → Option Value) (base : Heap) (C : CXT) (x : Str) (st : Stmt) (k : Nat) (ps : List Str) (sp : Sp) : Prop where
  ex : ∃ f fd, Fun K x x st f fd ∧ FnOk P w K mg base C k f fd ps sp ∧ mg x = some (.ref f) ∧ Binds K fd ps []
section
variable {P : Program} {w : World} {K : PySem.W.Frag} {mg : Str → Option Value} {base : Heap} {x : Str} {st : Stmt} {ps N : List Str} {k : Nat} {sp : Sp}
theorem has_mk {f : Addr} {fd : FuncData} (F : Fun K x x st f fd) (g : mg x = some (.ref f))
    (h : ∀ (kV doc pm : Value) (an : Option Addr) (cdv ct : Value) (us : List Value), us.length = ps.length → bindArgs (PySem.W.fnOf x x (defArgs st) (defBody st) (defScope st) .none kV doc pm an cdv ct) ⟨us, []⟩ = pure (ps.zip us)) : Has K mg x st ps :=
  ⟨f, fd, F, g, F.binds h⟩
theorem Has.ok (D : Has K mg x st ps) (S : FnScope N ps (defScope st)) (len : ∀ vs H Q E, sp vs H Q E → vs.length = ps.length)
    (hbody : ∀ (f : Addr) (cdv : Value) (A : Around) (outer : List Env) (s : Shared) (H : Hp) (vs : List V) (Q : VK) (E : XK), Room k (A.deeper (envOfC x (defScope st) s.heap.objs.size f cdv)) → sp vs H Q E →
      ∃ t, PSs (cxOf CX0 P w K mg base N x (defScope st) f cdv A outer s H E).nox (defBody st) t ∧ t { nx := fun _ H' => Q .non H', rt := Q } (start N vs) H) : Ok P w K mg base CX0 x st (k + 1) ps sp := by
  obtain ⟨f, fd, F, g, b⟩ := D
  exact ⟨f, fd, F, F.ok S len (hbody f), g, b⟩
end
section
variable {X : Cx} {x : Str} {st : Stmt} {ps ks : List Str} {k : Nat} {sp : Sp} {e : Expr} {es : List Expr} {kws : List Keyword} {t tk : TA} {p pos : Pos} {g : List Value → List Value → List Value} {gV : List V → List V → List V}
theorem callO (O : Ok X.prog X.w X.K X.mg X.base CX0 x st k ps sp) (hr : Room k X.A) (hg : Gl X x) (ha : PA X (e :: es) t) (hdb : (x == ("__debug__" : Str)) = false := by decide) (he : starEach (e :: es) X.env = (false, eval e X.env) :: starEach es X.env := by rfl) (hpl : (backTo pos (starEach es X.env)).any (·.1) = false := by rfl) :
    PE X (.Call (.Name x p) (e :: es) [] pos) (tCall sp [] E0 t) := by
  obtain ⟨f, fd, F, G, m, b⟩ := O
  exact pe_call G hr hg m F.kp b .nil pass0 ha hdb he hpl
/-- how a call by keywords alone binds -/
def KwB (x : Str) (st : Stmt) (ps ks : List Str) (g : List Value → List Value → List Value) : Prop :=
  ∀ (kV doc pm : Value) (an : Option Addr) (cdv ct : Value) (ws : List Value), ws.length = ks.length → bindArgs (PySem.W.fnOf x x (defArgs st) (defBody st) (defScope st) .none kV doc pm an cdv ct) ⟨[], ks.zip ws⟩ = pure (ps.zip (g [] ws))
theorem kbn_of {K : PySem.W.Frag} {f : Addr} {fd : FuncData} (F : Fun K x x st f fd) (h : KwB x st ps ks g) (rel : ∀ {vs : List V} {us : List Value} {zs : List V} {ws : List Value}, Vals vs us → Vals zs ws → Vals (gV vs zs) (g us ws)) : KBn K fd ps 0 ks g gV := by
  obtain ⟨oc, od, kV, doc, pm, an, cdv, ct, osl, rfl, lk, hcd⟩ := F.ex
  refine ⟨fun s us ws _ h1 h2 => ?_, rel⟩
  obtain rfl : us = [] := List.eq_nil_of_length_eq_zero h1
  exact .of_eq (h kV doc pm an cdv ct ws h2)
/-- f(k = v, ..) -/
theorem callO_kw (O : Ok X.prog X.w X.K X.mg X.base CX0 x st k ps sp) (h : KwB x st ps ks g) (rel : ∀ {vs : List V} {us : List Value} {zs : List V} {ws : List Value}, Vals vs us → Vals zs ws → Vals (gV vs zs) (g us ws)) (hr : Room k X.A) (hg : Gl X x) (hkw : PK X kws tk)
    (hall : (backToKw pos (keywordEach kws X.env)).all (·.1.isSome) = true := by rfl) (hks : (backToKw pos (keywordEach kws X.env)).filterMap (·.1) = ks := by rfl) (hdb : (x == ("__debug__" : Str)) = false := by decide)
    (hpl : ((backTo pos (starEach [] X.env)).any (·.1) || (backToKw pos (keywordEach kws X.env)).any (·.1.isNone)) = false := by rfl) :
    PE X (.Call (.Name x p) [] kws pos) (tCallN 0 ks.length sp gV E0 tNil tk) := by
  obtain ⟨f, fd, F, G, m, b⟩ := O
  refine ⟨fun pins s σ H Q I h0 => ?_⟩
  refine wpAny_Call_Name_kw (ld_glob I hg m ?_ hdb)
  refine PySem.W.callWith_KW0 (h₀ := X.base) I.ok.mod.kin F.kp hall ?_ hpl
  refine thn (hkw.run pos pins s σ H _ I h0) fun ws s2 ⟨zs, H2, I2, rz, l1, l2, q2⟩ => ⟨I2.kIn, ?_⟩
  rw [hks]
  exact run_fnN (us := []) (vs := []) G hr (kbn_of F h rel) pass0 I2 .nil rz rfl l2 q2
end
/-! ### heaps -/
/-- all but p is as it was -/
def Off (p : Addr) (H H' : Hp) : Prop := ∀ b o, H b = some o → b ≠ p → H' b = some o
theorem Off.refl {p : Addr} {H : Hp} : Off p H H := fun _ _ h _ => h
theorem Off.trans {p : Addr} {H H1 H2 : Hp} (a : Off p H H1) (b : Off p H1 H2) : Off p H H2 := fun c o h n => b c o (a c o h n) n
theorem Off.of {p : Addr} {H H' : Hp} (s : Same H H') : Off p H H' := fun b o h _ => s b o h
theorem off_upd {p : Addr} {H : Hp} {o : HO} : Off p H (upd H p o) := fun b o' h n => by rw [upd_ne n]; exact h
theorem same_upd {H : Hp} {p : Addr} {o : HO} (h : H p = none) : Same H (upd H p o) := fun b x e => by
  rw [upd_ne (ne_of_none e h)]
  exact e
theorem off_new {p q : Addr} {H : Hp} {o : HO} (h : H q = none) : Off p H (upd H q o) := .of (same_upd h)
theorem Off.seq {K : PySem.W.Frag} {p : Addr} {H H' : Hp} {a : Addr} {xs : List V} (e : Off p H H') (n : a ≠ p) (h : SqL K H a xs) : SqL K H' a xs := by
  rcases h with (h | ⟨o, h⟩) | h
  · exact .inl (.inl (e _ _ h n))
  · exact .inl (.inr ⟨o, e _ _ h n⟩)
  · exact .inr h
theorem Off.ne {p a : Addr} {H H' : Hp} {o o' : HO} (h : H a = some o) (n : H p = none) : a ≠ p := ne_of_none h n
theorem atI_mem {α : Type} {xs : List α} {i : Int} (h0 : 0 ≤ i) (h1 : i < (xs.length : Int)) : ∃ v, v ∈ xs ∧ atI xs i = some v := by
  have h2 : i.toNat < xs.length := by omega
  refine ⟨xs[i.toNat], List.getElem_mem h2, ?_⟩
  have h3 := atI_nat (xs := xs) (j := i.toNat) (v := xs[i.toNat]) (List.getElem?_eq_getElem h2)
  rw [show ((i.toNat : Nat) : Int) = i by omega] at h3
  exact h3
theorem atI_at {α : Type} {xs : List α} {i : Int} (h0 : 0 ≤ i) (h1 : i < (xs.length : Int)) : ∃ (j : Nat) (v : α), (j : Int) = i ∧ xs[j]? = some v ∧ atI xs i = some v := by
  have h2 : i.toNat < xs.length := by omega
  have h3 := atI_nat (xs := xs) (j := i.toNat) (v := xs[i.toNat]) (List.getElem?_eq_getElem h2)
  rw [show ((i.toNat : Nat) : Int) = i by omega] at h3
  exact ⟨i.toNat, _, by omega, List.getElem?_eq_getElem h2, h3⟩
theorem int_at {ns : List Int} {i : Nat} {y : V} (h : (ns.map V.int)[i]? = some y) : ∃ z, y = V.int z ∧ ns[i]? = some z := by
  rw [List.getElem?_map] at h
  cases e : ns[i]? with
  | none =>
    rw [e] at h
    cases h
  | some z =>
    rw [e] at h
    exact ⟨z, (Option.some.inj h).symm, rfl⟩
theorem cut_ints (ns : List Int) (lo hi : Option Int) : ∃ ms : List Int, ms.length ≤ ns.length ∧ cutV (ns.map V.int) lo hi = ms.map V.int := by
  unfold cutV
  rw [← List.map_drop, ← List.map_take]
  exact ⟨_, by rw [List.length_take, List.length_drop]; omega, rfl⟩
theorem yes_if {σ : L2.St} {H : Hp} {A B : Hp → Prop} (h : A H) : tYes σ H (fun b H3 => if b = true then A H3 else B H3) := by
  show if true = true then A H else B H
  exact iteT h

structure Txt (K : PySem.W.Frag) (mg : Str → Option Value) : Prop where
  h_p_is_whole : Has K mg "is_whole" s_p_is_whole ["thing"]
  h_p_is_count : Has K mg "is_count" s_p_is_count ["thing"]
  h_p_dealt : Has K mg "dealt" s_p_dealt ["total", "caps", "weights"]
  h_p_levelled : Has K mg "levelled" s_p_levelled ["total", "floors", "weights"]
  h_p_refuse_no_list : Has K mg "refuse_no_list" s_p_refuse_no_list ["thing"]
  h_p_refuse_no_counts : Has K mg "refuse_no_counts" s_p_refuse_no_counts ["things"]
  h_p_refuse_no_weights : Has K mg "refuse_no_weights" s_p_refuse_no_weights ["weights", "many"]
  h_p_by_level : Has K mg "by_level" s_p_by_level ["total", "limits", "weights", "binds"]
  h_p_unbound : Has K mg "unbound" s_p_unbound ["total", "limits", "weights", "binds"]
  h_p_cap_binds : Has K mg "cap_binds" s_p_cap_binds ["cap", "weight", "top", "bottom"]
  h_p_floor_binds : Has K mg "floor_binds" s_p_floor_binds ["floor", "weight", "top", "bottom"]
  h_p_running_parts : Has K mg "running_parts" s_p_running_parts ["room", "weights"]
  h_p_in_lowest_terms : Has K mg "in_lowest_terms" s_p_in_lowest_terms ["top", "bottom"]
  h_cell_at : Has K mg "_law_cell_at" s_cell_at ["_law_script", "_law_k"]
  h_mixed : Has K mg "_law_mixed" s_mixed ["_law_cell", "_law_k"]
  h_source : Has K mg "_law_source" s_source ["_law_cell"]
  h_next : Has K mg "_law_next" s_next ["_law_source_here", "_law_many"]
  h_case : Has K mg "_law_case" s_case ["_law_source_here"]
  h_totals : Has K mg "_law_totals" s_totals ["_law_source_here", "_law_bounds"]
  h_asked : Has K mg "_law_asked" s_asked ["_law_kind", "_law_amount", "_law_bounds", "_law_loads"]
  h_rises : Has K mg "_law_rises" s_rises ["_law_kind", "_law_one", "_law_other"]
  h_pieces_right : Has K mg "_law_pieces_right" s_pieces_right ["_law_kind", "_law_amount", "_law_bounds", "_law_found"]
  h_stay_right : Has K mg "_law_stay_right" s_stay_right ["_law_kind", "_law_bounds", "_law_loads", "_law_less", "_law_more"]
  m_isinstance : mg "isinstance" = none
  m_int : mg "int" = none
  m_bool : mg "bool" = none
  m_len : mg "len" = none
  m_zip : mg "zip" = none
  m_sum : mg "sum" = none
  m_list : mg "list" = none
  m_enumerate : mg "enumerate" = none
  m_range : mg "range" = none
/-! ### the source of draws: a list of three numbers -/
def Src (H : Hp) (p : Addr) : Prop := ∃ a b c : Int, H p = some (.lst [.int a, .int b, .int c])
theorem Src.ne_new {H : Hp} {p q : Addr} (h : Src H p) (n : H q = none) : q ≠ p := by
  obtain ⟨a, b, c, e⟩ := h
  exact (ne_of_none e n).symm
theorem Src.keep {H : Hp} {p q : Addr} {o : HO} (h : Src H p) (n : H q = none) : Src (upd H q o) p := by
  obtain ⟨a, b, c, e⟩ := h
  exact ⟨a, b, c, by rw [upd_ne (ne_of_none e n)]; exact e⟩
theorem Src.same {H H' : Hp} {p : Addr} (h : Src H p) (s : Same H H') : Src H' p := by
  obtain ⟨a, b, c, e⟩ := h
  exact ⟨a, b, c, s _ _ e⟩
def spCellAt (K : PySem.W.Frag) : Sp := fun vs H Q _ => ∃ (l : Addr) (ns : List Int) (j : Nat), vs = [.ref l, .int (j : Int)] ∧ SqL K H l (ns.map V.int) ∧ ∀ z : Int, Q (.int z) H
def spMixed : Sp := fun vs H Q _ => ∃ c k : Int, vs = [.int c, .int k] ∧ ∀ r : Int, Q (.int r) H
def spSource : Sp := fun vs H Q _ => ∃ c : Int, vs = [.int c] ∧ ∀ p H', H p = none → Src H' p → Same H H' → Q (.ref p) H'
def spNext : Sp := fun vs H Q _ => ∃ (p : Addr) (m : Int), vs = [.ref p, .int m] ∧ 0 < m ∧ m < 2 ^ 100 ∧ Src H p ∧ ∀ (r : Int) H', 0 ≤ r → r < m → Src H' p → Off p H H' → Q (.int r) H'
section
variable {P : Program} {w : World} {K : PySem.W.Frag} {mg : Str → Option Value} {base : Heap}
theorem ok_cell_at (T : Txt K mg) : Ok P w K mg base CX0 "_law_cell_at" s_cell_at 1 ["_law_script", "_law_k"] (spCellAt K) := by
  refine T.h_cell_at.ok sc_cell_at (fun vs H Q E h => ?_) (fun f cdv A outer s H vs Q E hr h => ?_)
  · obtain ⟨l, ns, j, rfl, _⟩ := h; rfl
  obtain ⟨l, ns, j, rfl, hs, q⟩ := h
  refine ⟨_, (pss_cons (ps_if (pt_cmpR op_lt (pv 1) (pe_callB call_len (by rfl) T.m_len (by decide +kernel) (pa_cons (pv 0) pa_nil)) (nomark _))
      (pss_one (ps_ret (pe_ix ix_list (pv 0) (pv 1) (fun _ _ => rfl))))
      pss_nil)
      (pss_one (ps_ret pe_int))), ?_⟩
  refine ⟨_, rfl, _, rfl, _, _, rfl, .inl ⟨_, hs, rfl⟩, _, _, rfl, rfl, _, rfl, ite2 (fun e => ?_) (fun e => ?_)⟩
  · have e1 := of_decide_eq_true e
    obtain ⟨v, hv, ha⟩ := atI_mem (xs := ns.map V.int) (i := (j : Int)) (by omega) e1
    obtain ⟨z, _, rfl⟩ := List.mem_map.mp hv
    exact ⟨_, rfl, _, rfl, _, _, _, _, rfl, rfl, hs, ha, q z⟩
  · exact q 0
theorem ok_mixed (T : Txt K mg) : Ok P w K mg base CX0 "_law_mixed" s_mixed 1 ["_law_cell", "_law_k"] spMixed := by
  refine T.h_mixed.ok sc_mixed (fun vs H Q E h => ?_) (fun f cdv A outer s H vs Q E hr h => ?_)
  · obtain ⟨l, j, rfl, _⟩ := h; rfl
  obtain ⟨c, k, rfl, q⟩ := h
  refine ⟨_, (pss_cons (ps_set (i := 2) sc_mixed.nd rfl (by first | exact Or.inl rfl | exact Or.inr rfl) (pe_op op_add (pe_op op_mod (pv 0) pe_int) (pe_op op_mul (pe_op op_fdivW (pv 0) pe_int) pe_int)))
      (pss_cons (ps_set (i := 2) sc_mixed.nd rfl (by first | exact Or.inl rfl | exact Or.inr rfl) (pe_op op_mod (pe_op op_mul (pe_op op_add (pe_op op_add (pv 2) (pe_op op_mul pe_int (pv 1))) pe_int) pe_int) pe_int))
      (pss_cons (ps_set (i := 2) sc_mixed.nd rfl (by first | exact Or.inl rfl | exact Or.inr rfl) (pe_op op_mod (pe_op op_mul (pv 2) (pe_op op_add (pe_op op_add (pe_op op_fdiv (pv 2) pe_int) pe_int) (pv 1))) pe_int))
      (pss_one (ps_ret (pe_op op_mod (pe_op op_mul (pv 2) (pe_op op_add (pe_op op_fdiv (pv 2) pe_int) pe_int)) pe_int)))))), ?_⟩
  refine ⟨_, rfl, _, _, rfl, rfl, (by show (0 : Int) < 2147483563; decide), _, rfl, _, _, rfl, rfl, wide_div (b := 40) (by decide) (by decide) (by decide) (by decide), _, _, rfl, rfl, .inr ⟨by decide, by decide⟩, _, _, rfl, rfl, ?_⟩
  refine ⟨_, rfl, _, rfl, _, _, rfl, rfl, .inl ⟨by decide, by decide⟩, _, _, rfl, rfl, _, _, rfl, rfl, _, _, rfl, rfl, .inr ⟨by decide, by decide⟩, _, _, rfl, rfl, (by show (0 : Int) < 2147483563; decide), ?_⟩
  have m1 : ∀ a : Int, (0 : Int) ≤ a % 2147483563 ∧ a % 2147483563 < 2147483563 := fun a => ⟨Int.emod_nonneg a (by decide), Int.emod_lt_of_pos a (by decide)⟩
  have m2 : ∀ a : Int, (0 : Int) ≤ a % 2147483549 ∧ a % 2147483549 < 2147483549 := fun a => ⟨Int.emod_nonneg a (by decide), Int.emod_lt_of_pos a (by decide)⟩
  generalize hx : ((c % 2147483563 + c / 2147483563 * 40009 + 52711 * k + 1) * 39373) % 2147483563 = x
  have b1 := m1 ((c % 2147483563 + c / 2147483563 * 40009 + 52711 * k + 1) * 39373)
  rw [hx] at b1
  refine ⟨_, rfl, _, rfl, _, _, rfl, rfl, ⟨by decide, by decide⟩, _, _, rfl, rfl, _, rfl, _, _, rfl, rfl, _, _, rfl, rfl, .inl ⟨by omega, by omega⟩, _, _, rfl, rfl, (by show (0 : Int) < 2147483549; decide), ?_⟩
  generalize hy : (x * (x / 1019 + 20011 + k)) % 2147483549 = y
  have b2 := m2 (x * (x / 1019 + 20011 + k))
  rw [hy] at b2
  refine ⟨_, rfl, _, rfl, _, _, rfl, rfl, ⟨by decide, by decide⟩, _, _, rfl, rfl, _, _, rfl, rfl, .inl ⟨by omega, by omega⟩, _, _, rfl, rfl, (by show (0 : Int) < 2147483497; decide), ?_⟩
  exact q _
theorem ok_source (T : Txt K mg) : Ok P w K mg base CX0 "_law_source" s_source 1 ["_law_cell"] spSource := by
  refine T.h_source.ok sc_source (fun vs H Q E h => ?_) (fun f cdv A outer s H vs Q E hr h => ?_)
  · obtain ⟨c, rfl, _⟩ := h; rfl
  obtain ⟨c, rfl, q⟩ := h
  refine ⟨_, (pss_one (ps_ret (pe_lst (pa_cons (pv 0) (pa_cons (pv 0) (pa_cons pe_int pa_nil)))))), ?_⟩
  refine ⟨_, rfl, _, rfl, (by show 3 ≤ sizeLine; decide), fun p np => ?_⟩
  exact q p _ np ⟨c, c, 0, upd_same⟩ (same_upd np)
theorem ok_next (T : Txt K mg) : Ok P w K mg base CX0 "_law_next" s_next 2 ["_law_source_here", "_law_many"] spNext := by
  have O_mixed := ok_mixed (P := P) (w := w) (base := base) T
  refine T.h_next.ok sc_next (fun vs H Q E h => ?_) (fun f cdv A outer s H vs Q E hr h => ?_)
  · obtain ⟨p, m, rfl, _⟩ := h; rfl
  obtain ⟨p, m, rfl, m0, m1, ⟨a, b, c, hp⟩, q⟩ := h
  have sq : SqL K H p [.int a, .int b, .int c] := .of hp
  have a0 : atI [V.int a, V.int b, V.int c] 0 = some (.int a) := atI_nat (j := 0) rfl
  have a1 : atI [V.int a, V.int b, V.int c] 1 = some (.int b) := atI_nat (j := 1) rfl
  have a2 : atI [V.int a, V.int b, V.int c] 2 = some (.int c) := atI_nat (j := 2) rfl
  have hm : CDivW a m := wide_div (b := 100) m0 (by omega) (by decide) (by decide)
  refine ⟨_, (pss_cons (ps_if (pt_cmpR op_ge (pe_ix ix_list (pv 0) pe_int (fun _ _ => rfl)) (pe_op op_pow pe_int pe_int) (nomark _))
      (pss_cons (ps_set (i := 2) sc_next.nd rfl (by first | exact Or.inl rfl | exact Or.inr rfl) (pe_op op_mod (pe_ix ix_list (pv 0) pe_int (fun _ _ => rfl)) (pv 1)))
      (pss_cons (ps_asg (pe_op op_fdivW (pe_ix ix_list (pv 0) pe_int (fun _ _ => rfl)) (pv 1)) (pg_sub (pv 0) pe_int set_list))
      (pss_one (ps_ret (pv 2)))))
      pss_nil)
      (pss_cons (ps_asg (pe_op op_add (pe_ix ix_list (pv 0) pe_int (fun _ _ => rfl)) pe_int) (pg_sub (pv 0) pe_int set_list))
      (pss_one (ps_ret (pe_op op_mod (callO O_mixed (hr.mono (by decide)) (by rfl) (pa_cons (pe_ix ix_list (pv 0) pe_int (fun _ _ => rfl)) (pa_cons (pe_ix ix_list (pv 0) pe_int (fun _ _ => rfl)) pa_nil))) (pv 1)))))), ?_⟩
  refine ⟨_, rfl, _, _, _, _, rfl, rfl, sq, a0, _, _, rfl, rfl, ⟨by decide, by decide, by decide⟩, _, _, rfl, rfl, _, rfl, ite2 (fun _ => ?_) (fun _ => ?_)⟩
  · refine ⟨_, rfl, _, _, _, _, rfl, rfl, sq, a0, _, rfl, _, _, rfl, rfl, m0, _, rfl, _, _, _, _, rfl, rfl, sq, a0, _, rfl, _, _, rfl, rfl, hm, _, rfl, _, _, _, 0, rfl, rfl, hp, rfl, _, rfl, ?_⟩
    exact q _ _ (Int.emod_nonneg _ (by omega)) (Int.emod_lt_of_pos _ m0) ⟨_, _, _, upd_same⟩ off_upd
  · refine ⟨_, rfl, _, _, _, _, rfl, rfl, sq, a2, _, _, rfl, rfl, _, rfl, _, _, _, 2, rfl, rfl, hp, rfl, ?_⟩
    have hp2 : (upd H p (.lst [.int a, .int b, .int (c + 1)])) p = some (.lst [.int a, .int b, .int (c + 1)]) := upd_same
    have sq2 : SqL K (upd H p (.lst [.int a, .int b, .int (c + 1)])) p [.int a, .int b, .int (c + 1)] := .of hp2
    refine ⟨_, rfl, _, _, _, _, rfl, rfl, sq2, atI_nat (j := 1) rfl, _, rfl, _, _, _, _, rfl, rfl, sq2, atI_nat (j := 2) rfl, _, _, rfl, fun r => ?_⟩
    refine ⟨_, rfl, _, _, rfl, rfl, m0, ?_⟩
    exact q _ _ (Int.emod_nonneg _ (by omega)) (Int.emod_lt_of_pos _ m0) ⟨_, _, _, upd_same⟩ off_upd
end

/-! ### the cells that a law walks -/
theorem cells_it {K : PySem.W.Frag} {σ : L2.St} {H : Hp} {a : Addr} {ns : List Int} {n : Int} {R : It → Hp → Prop} (h0 : σ[0]? = some (some (.ref a))) (hS : SqL K H a (ns.map V.int)) (hl : ns.length ≤ 63)
    (k : ∀ (L : Addr) (zs : List Int) (HB : Hp), HB L = some (.lst (zs.map V.int)) → Same H HB → R (Itl K L) HB) :
    iList K (tOp rCat (tLst (tCons (tCall (spCellAt K) [] E0 (tCons (tVar 0) (tCons (tC (.int 0)) tNil))) tNil)) (tSl (rSlL K) (tVar 0) (tPart (tC (.int 1))) (tPart (tC (.int n))))) σ H R := by
  refine ⟨_, h0, a, ns, 0, rfl, hS, fun z0 => ⟨(by show 1 ≤ sizeLine; decide), fun p1 n1 => ?_⟩⟩
  obtain ⟨ms, hms, ecut⟩ := cut_ints ns (some 1) (some n)
  refine ⟨_, h0, 1, rfl, n, rfl, a, ns.map V.int, rfl, (same_upd n1).seq hS, fun p2 n2 => ?_⟩
  have g1 : (upd (upd H p1 (.lst [.int z0])) p2 (.lst (cutV (ns.map V.int) (some 1) (some n)))) p1 = some (.lst [.int z0]) := by
    rw [upd_ne (ne_of_none upd_same n2)]
    exact upd_same
  refine ⟨p1, p2, _, _, rfl, rfl, g1, upd_same, ?_, fun L nL => ?_⟩
  · rw [ecut, List.length_map]
    show 1 + ms.length ≤ sizeLine
    exact Nat.le_trans (by omega : 1 + ms.length ≤ 64) (by decide)
  have sB := (same_upd (o := .lst [.int z0]) n1).trans ((same_upd n2).trans (same_upd (o := .lst ([V.int z0] ++ cutV (ns.map V.int) (some 1) (some n))) nL))
  refine ⟨L, rfl, ⟨_, .of upd_same⟩, k L (z0 :: ms) _ ?_ sB⟩
  rw [upd_same, ecut]
  rfl
/-- what a for asks of the thing that it walks -/
def forR (g : TG) (tb : TS) (D : Ends) (σ : L2.St) (J : It) (H1 : Hp) : Prop :=
  ∃ W : Nat → Nat → L2.St → Hp → Prop, (∃ m, W 0 m σ H1) ∧ ∀ i m σ H, W i m σ H → (J.stop i H ∧ D.nx σ H) ∨
    (J.go i H ∧ ∃ N : L2.St → Hp → Prop, (∀ σ' H', N σ' H' → ∃ m', m' < m ∧ W (i + 1) m' σ' H') ∧ ∀ x H', J.yld i H x H' → g x σ H' fun σ2 H2 => tb { D with nx := N, ct := N, bk := D.nx } σ2 H2)
theorem cells_for {K : PySem.W.Frag} {σ : L2.St} {H : Hp} {a : Addr} {ns : List Int} {n : Int} {g : TG} {tb u : TS} {D : Ends} (h0 : σ[0]? = some (some (.ref a))) (hS : SqL K H a (ns.map V.int)) (hl : ns.length ≤ 63)
    (k : ∀ (L : Addr) (zs : List Int) (HB : Hp), HB L = some (.lst (zs.map V.int)) → Same H HB → forR g tb { D with nx := u D } σ (Itl K L) HB) :
    tSeq (tFor (iList K (tOp rCat (tLst (tCons (tCall (spCellAt K) [] E0 (tCons (tVar 0) (tCons (tC (.int 0)) tNil))) tNil)) (tSl (rSlL K) (tVar 0) (tPart (tC (.int 1))) (tPart (tC (.int n)))))) g tb) u D σ H :=
  cells_it (R := forR g tb { D with nx := u D } σ) h0 hS hl k

/-! ### levels: pairs of a limit and a weight -/
abbrev Pr := Option Int × Int
def lim (x : Pr) : Int := x.1.getD 0
def sumW (l : List Pr) : Int := (l.map fun x => x.2).sum
def sumL (l : List Pr) : Int := (l.map lim).sum
def bnd : Bool → Pr → Int → Int → Bool
  | true, (none, _), _, _ => false
  | true, (some c, w), top, bot => decide (c * bot ≤ top * w)
  | false, (c, w), top, bot => decide (top * w ≤ c.getD 0 * bot)
theorem bnd_cap {x : Pr} {top bot : Int} (h : bnd true x top bot = true) : x.1 ≠ none ∧ lim x * bot ≤ top * x.2 := by
  obtain ⟨c, w⟩ := x
  cases c with
  | none => cases h
  | some c => exact ⟨by simp, of_decide_eq_true h⟩
theorem bnd_cap_of {x : Pr} {top bot : Int} (h1 : x.1 ≠ none) (h : lim x * bot ≤ top * x.2) : bnd true x top bot = true := by
  obtain ⟨c, w⟩ := x
  cases c with
  | none => exact absurd rfl h1
  | some c => exact decide_eq_true h
theorem bnd_flo {x : Pr} {top bot : Int} (h : bnd false x top bot = true) : top * x.2 ≤ lim x * bot := of_decide_eq_true h
theorem bnd_flo_of {x : Pr} {top bot : Int} (h : top * x.2 ≤ lim x * bot) : bnd false x top bot = true := decide_eq_true h
theorem sum_split (f : Pr → Int) (p b : Pr → Bool) : ∀ l : List Pr, ((l.filter p).map f).sum = ((l.filter fun x => p x && b x).map f).sum + ((l.filter fun x => p x && !b x).map f).sum
  | [] => rfl
  | x :: r => by
    have ih := sum_split f p b r
    cases hp : p x <;> cases hb : b x <;> simp [List.filter_cons, hp, hb] <;> omega
theorem sum_split1 (f : Pr → Int) (p : Pr → Bool) : ∀ l : List Pr, (l.map f).sum = ((l.filter p).map f).sum + ((l.filter fun x => !p x).map f).sum
  | [] => rfl
  | x :: r => by
    have ih := sum_split1 f p r
    cases hp : p x <;> simp [List.filter_cons, hp] <;> omega
theorem sum_nonneg {α : Type} (f : α → Int) : ∀ (l : List α), (∀ x ∈ l, 0 ≤ f x) → 0 ≤ (l.map f).sum
  | [], _ => by simp
  | x :: r, h => by
    have h1 := h x List.mem_cons_self
    have h2 := sum_nonneg f r fun y hy => h y (List.mem_cons_of_mem _ hy)
    simp only [List.map_cons, List.sum_cons]
    omega
/-- Σ a · W ≤ room · Σ w, from each one -/
theorem sum_mul_le (a b : Pr → Int) (u v : Int) : ∀ (l : List Pr), (∀ x ∈ l, a x * u ≤ v * b x) → (l.map a).sum * u ≤ v * (l.map b).sum
  | [], _ => by simp
  | x :: r, h => by
    have h1 := h x List.mem_cons_self
    have h2 := sum_mul_le a b u v r fun y hy => h y (List.mem_cons_of_mem _ hy)
    simp only [List.map_cons, List.sum_cons]
    rw [Int.add_mul, Int.mul_add]
    omega
theorem sum_mul_ge (a b : Pr → Int) (u v : Int) : ∀ (l : List Pr), (∀ x ∈ l, v * b x ≤ a x * u) → v * (l.map b).sum ≤ (l.map a).sum * u
  | [], _ => by simp
  | x :: r, h => by
    have h1 := h x List.mem_cons_self
    have h2 := sum_mul_ge a b u v r fun y hy => h y (List.mem_cons_of_mem _ hy)
    simp only [List.map_cons, List.sum_cons]
    rw [Int.add_mul, Int.mul_add]
    omega
structure Good (ps : List Pr) : Prop where
  w0 : ∀ x ∈ ps, 0 ≤ x.2
  l0 : ∀ x ∈ ps, 0 ≤ lim x
structure Lev (cap : Bool) (total : Int) (ps : List Pr) (p : Pr → Bool) (room W : Int) : Prop where
  pos : ∀ x ∈ ps, p x = true → 0 < x.2
  eW : W = sumW (ps.filter p)
  eR : room = total - sumL (ps.filter fun x => !p x)
  w0 : 0 < W
  r0 : 0 ≤ room
  stay : ∀ x ∈ ps, 0 < x.2 → p x = false → bnd cap x room W = true
  known : ∀ x ∈ ps, p x = false → x.1 ≠ none
  over : if cap = true then (∃ x ∈ ps, p x = true ∧ x.1 = none) ∨ room < sumL (ps.filter p) else (∀ x ∈ ps, x.1 ≠ none) ∧ sumL (ps.filter p) < room
theorem filter_pos {ps : List Pr} {p : Pr → Bool} (h : ∀ x ∈ ps, p x = true → 0 < x.2) (hn : ∃ x ∈ ps, p x = true) : 0 < sumW (ps.filter p) := by
  obtain ⟨x, hx, px⟩ := hn
  have hm : x ∈ ps.filter p := List.mem_filter.mpr ⟨hx, px⟩
  obtain ⟨s, t, e⟩ := List.append_of_mem hm
  unfold sumW
  rw [e, List.map_append, List.sum_append, List.map_cons, List.sum_cons]
  have hx := h x hx px
  have hall : ∀ y ∈ ps.filter p, 0 ≤ y.2 := fun y hy => by
    have := h y (List.mem_filter.mp hy).1 (List.mem_filter.mp hy).2
    omega
  rw [e] at hall
  have h1 := sum_nonneg (fun x : Pr => x.2) s fun y hy => hall y (List.mem_append_left _ hy)
  have h2 := sum_nonneg (fun x : Pr => x.2) t fun y hy => hall y (List.mem_append_right _ (List.mem_cons_of_mem _ hy))
  omega
theorem none_free {ps : List Pr} {p : Pr → Bool} (h : ¬ ∃ x ∈ ps, p x = true) : ps.filter p = [] := by
  rw [List.filter_eq_nil_iff]
  intro x hx px
  exact h ⟨x, hx, px⟩
section
variable {total : Int} {ps : List Pr} {p : Pr → Bool} {room W : Int}
theorem split_not (f : Pr → Int) (b : Pr → Bool) : ((ps.filter fun x => !(p x && !b x)).map f).sum = ((ps.filter fun x => !p x).map f).sum + ((ps.filter fun x => p x && b x).map f).sum := by
  have h1 := sum_split1 f p ps
  have h2 := sum_split1 f (fun x => p x && !b x) ps
  have h3 := sum_split f p b ps
  omega
theorem Lev.step {cap : Bool} (g : Good ps) (h : Lev cap total ps p room W) :
    Lev cap total ps (fun x => p x && !bnd cap x room W) (room - sumL (ps.filter fun x => p x && bnd cap x room W)) (W - sumW (ps.filter fun x => p x && bnd cap x room W)) := by
  have eW := h.eW
  have eR := h.eR
  have hw := h.w0
  have hr := h.r0
  have sW := sum_split (fun x => x.2) p (fun x => bnd cap x room W) ps
  have sL := sum_split lim p (fun x => bnd cap x room W) ps
  have nL := split_not (ps := ps) (p := p) lim (fun x => bnd cap x room W)
  have gW1 := sum_nonneg (fun x : Pr => x.2) (ps.filter fun x => p x && bnd cap x room W) fun x hx => g.w0 x (List.mem_filter.mp hx).1
  have gL1 := sum_nonneg lim (ps.filter fun x => p x && bnd cap x room W) fun x hx => g.l0 x (List.mem_filter.mp hx).1
  have gL2 := sum_nonneg lim (ps.filter fun x => p x && !bnd cap x room W) fun x hx => g.l0 x (List.mem_filter.mp hx).1
  have pos2 : ∀ x ∈ ps, (p x && !bnd cap x room W) = true → 0 < x.2 := fun x hx px => h.pos x hx (by simp at px; exact px.1)
  generalize hq : (ps.filter fun x => p x && bnd cap x room W) = q at sW sL nL gW1 gL1 ⊢
  have hqm : ∀ x ∈ q, x ∈ ps ∧ p x = true ∧ bnd cap x room W = true := fun x hx => by
    rw [← hq] at hx
    have h1 := List.mem_filter.mp hx
    have h2 := h1.2
    simp at h2
    exact ⟨h1.1, h2.1, h2.2⟩
  generalize hf : (ps.filter fun x => p x && !bnd cap x room W) = f at sW sL gL2
  have nf : f = [] ∨ 0 < sumW f := by
    by_cases hn : ∃ x ∈ ps, (p x && !bnd cap x room W) = true
    · right
      rw [← hf]
      exact filter_pos pos2 hn
    · left
      rw [← hf]
      exact none_free hn
  have eW2 : W - sumW q = sumW f := by
    unfold sumW at eW ⊢
    omega
  have eR2 : room - sumL q = total - sumL (ps.filter fun x => !(p x && !bnd cap x room W)) := by
    unfold sumL at eR ⊢
    omega
  have kn : ∀ x ∈ ps, (p x && !bnd cap x room W) = false → x.1 ≠ none := fun x hx hp => by
    cases cap with
    | false => exact (by simpa using h.over : (∀ x ∈ ps, x.1 ≠ none) ∧ _).1 x hx
    | true =>
      cases e : p x with
      | false => exact h.known x hx e
      | true =>
        rw [e] at hp
        have h1 : bnd true x room W = true := by
          cases e3 : bnd true x room W with
          | true => rfl
          | false => rw [e3] at hp; cases hp
        exact (bnd_cap h1).1
  cases cap with
  | true =>
    have key : sumL q * W ≤ room * sumW q := sum_mul_le lim (fun x => x.2) W room q fun x hx => (bnd_cap (hqm x hx).2.2).2
    have hqW : sumW q ≤ W := by
      rcases nf with h0 | h0
      · rw [h0] at eW2
        have : sumW [] = 0 := rfl
        omega
      · omega
    have hLr : sumL q ≤ room := by
      have h1 : room * sumW q ≤ room * W := Int.mul_le_mul_of_nonneg_left hqW hr
      exact Int.le_of_mul_le_mul_right (Int.le_trans key h1) hw
    have ov : (∃ x ∈ ps, (p x && !bnd true x room W) = true ∧ x.1 = none) ∨ room - sumL q < sumL f := by
      have := h.over
      simp only [if_true] at this
      rcases this with ⟨x, hx, px, nx⟩ | h1
      · left
        refine ⟨x, hx, ?_, nx⟩
        rw [px]
        obtain ⟨c, w⟩ := x
        simp only at nx
        subst nx
        rfl
      · right
        unfold sumL at h1 ⊢
        omega
    have w2 : 0 < W - sumW q := by
      rcases nf with h0 | h0
      · exfalso
        rcases ov with ⟨x, hx, px, _⟩ | h1
        · have : x ∈ f := by
            rw [← hf]
            exact List.mem_filter.mpr ⟨hx, px⟩
          rw [h0] at this
          cases this
        · rw [h0] at h1
          have : sumL [] = 0 := rfl
          omega
      · omega
    refine ⟨pos2, by rw [eW2, hf], eR2, w2, by omega, ?_, kn, ?_⟩
    · intro x hx hx0 hp
      have hk := kn x hx hp
      have h1 : lim x * W ≤ room * x.2 := by
        cases e : p x with
        | false => exact (bnd_cap (h.stay x hx hx0 e)).2
        | true =>
          rw [e] at hp
          have h1 : bnd true x room W = true := by
            cases e3 : bnd true x room W with
            | true => rfl
            | false => rw [e3] at hp; cases hp
          exact (bnd_cap h1).2
      refine bnd_cap_of hk ?_
      have h2 : room * (W - sumW q) ≤ (room - sumL q) * W := by
        rw [Int.mul_sub, Int.sub_mul]
        omega
      have h3 : lim x * W * (W - sumW q) ≤ room * x.2 * (W - sumW q) := Int.mul_le_mul_of_nonneg_right h1 (by omega)
      have h4 : x.2 * (room * (W - sumW q)) ≤ x.2 * ((room - sumL q) * W) := Int.mul_le_mul_of_nonneg_left h2 (by omega)
      have e1 : lim x * W * (W - sumW q) = lim x * (W - sumW q) * W := by
        rw [Int.mul_assoc, Int.mul_comm W, ← Int.mul_assoc]
      have e2 : room * x.2 * (W - sumW q) = x.2 * (room * (W - sumW q)) := by
        rw [Int.mul_comm room x.2, Int.mul_assoc]
      have e3 : x.2 * ((room - sumL q) * W) = (room - sumL q) * x.2 * W := by
        rw [← Int.mul_assoc, Int.mul_comm x.2]
      rw [e1, e2] at h3
      rw [e3] at h4
      exact Int.le_of_mul_le_mul_right (Int.le_trans h3 h4) hw
    · rw [if_pos rfl, hf]
      exact ov
  | false =>
    have ov0 : (∀ x ∈ ps, x.1 ≠ none) ∧ sumL (ps.filter p) < room := by simpa using h.over
    have key : room * sumW q ≤ sumL q * W := sum_mul_ge lim (fun x => x.2) W room q fun x hx => bnd_flo (hqm x hx).2.2
    have ov : sumL f < room - sumL q := by
      have := ov0.2
      unfold sumL at this ⊢
      omega
    have w2 : 0 < W - sumW q := by
      rcases nf with h0 | h0
      · exfalso
        rw [h0] at ov eW2
        have z1 : sumL [] = 0 := rfl
        have z2 : sumW [] = 0 := rfl
        have : sumW q = W := by omega
        rw [this] at key
        have := Int.le_of_mul_le_mul_right key hw
        omega
      · omega
    have r2 : 0 ≤ room - sumL q := by
      unfold sumL at ov ⊢
      omega
    refine ⟨pos2, by rw [eW2, hf], eR2, w2, r2, ?_, kn, ?_⟩
    · intro x hx hx0 hp
      have h1 : room * x.2 ≤ lim x * W := by
        cases e : p x with
        | false => exact bnd_flo (h.stay x hx hx0 e)
        | true =>
          rw [e] at hp
          have h1 : bnd false x room W = true := by
            cases e3 : bnd false x room W with
            | true => rfl
            | false => rw [e3] at hp; cases hp
          exact bnd_flo h1
      refine bnd_flo_of ?_
      have h2 : (room - sumL q) * W ≤ room * (W - sumW q) := by
        rw [Int.mul_sub, Int.sub_mul]
        omega
      have h3 : room * x.2 * (W - sumW q) ≤ lim x * W * (W - sumW q) := Int.mul_le_mul_of_nonneg_right h1 (by omega)
      have h4 : x.2 * ((room - sumL q) * W) ≤ x.2 * (room * (W - sumW q)) := Int.mul_le_mul_of_nonneg_left h2 (by omega)
      have e1 : lim x * W * (W - sumW q) = lim x * (W - sumW q) * W := by
        rw [Int.mul_assoc, Int.mul_comm W, ← Int.mul_assoc]
      have e2 : room * x.2 * (W - sumW q) = x.2 * (room * (W - sumW q)) := by
        rw [Int.mul_comm room x.2, Int.mul_assoc]
      have e3 : x.2 * ((room - sumL q) * W) = (room - sumL q) * x.2 * W := by
        rw [← Int.mul_assoc, Int.mul_comm x.2]
      rw [e1, e2] at h3
      rw [e3] at h4
      exact Int.le_of_mul_le_mul_right (Int.le_trans h4 h3) hw
    · rw [if_neg (by decide), hf]
      exact ⟨ov0.1, ov⟩
end
/-- who gets level times weight -/
def free (cap : Bool) (room W : Int) (x : Pr) : Bool := decide (0 < x.2) && !bnd cap x room W
structure Fix (cap : Bool) (total : Int) (ps : List Pr) (room W : Int) : Prop where
  eW : W = sumW (ps.filter (free cap room W))
  eR : room = total - sumL (ps.filter fun x => !free cap room W x)
  w0 : 0 < W
  r0 : 0 ≤ room
  known : ∀ x ∈ ps, free cap room W x = false → x.1 ≠ none
theorem Lev.same {cap : Bool} {total : Int} {ps : List Pr} {p : Pr → Bool} {room W : Int} (h : Lev cap total ps p room W) (hn : ∀ x ∈ ps, p x = true → bnd cap x room W = false) : ∀ x ∈ ps, p x = free cap room W x := fun x hx => by
  unfold free
  cases e : p x with
  | true => rw [hn x hx e, decide_eq_true (h.pos x hx e)]; rfl
  | false =>
    by_cases h0 : 0 < x.2
    · rw [h.stay x hx h0 e, decide_eq_true h0]
      rfl
    · rw [decide_eq_false h0]
      rfl
theorem Lev.fix {cap : Bool} {total : Int} {ps : List Pr} {p : Pr → Bool} {room W : Int} (h : Lev cap total ps p room W) (hn : ∀ x ∈ ps, p x = true → bnd cap x room W = false) : Fix cap total ps room W := by
  have hs := h.same hn
  have e1 : ps.filter p = ps.filter (free cap room W) := List.filter_congr hs
  have e2 : (ps.filter fun x => !p x) = ps.filter fun x => !free cap room W x := List.filter_congr fun x hx => by rw [hs x hx]
  exact ⟨by rw [← e1]; exact h.eW, by rw [← e2]; exact h.eR, h.w0, h.r0, fun x hx hp => h.known x hx (by rw [hs x hx]; exact hp)⟩
/-- the parts -/
def runs (room W : Int) : Int → List Int → List Int
  | _, [] => []
  | cum, w :: r => (room * (cum + w) / W - room * cum / W) :: runs room W (cum + w) r
theorem runs_snoc (room W : Int) : ∀ (l : List Int) (cum w : Int), runs room W cum (l ++ [w]) = runs room W cum l ++ [room * (cum + l.sum + w) / W - room * (cum + l.sum) / W]
  | [], cum, w => by simp [runs]
  | v :: r, cum, w => by
    show _ :: runs room W (cum + v) (r ++ [w]) = _ :: (runs room W (cum + v) r ++ _)
    rw [runs_snoc room W r (cum + v) w, List.sum_cons, Int.add_assoc cum v]
theorem runs_len (room W : Int) : ∀ (l : List Int) (cum : Int), (runs room W cum l).length = l.length
  | [], _ => rfl
  | v :: r, cum => by
    show (runs room W (cum + v) r).length + 1 = _
    rw [runs_len room W r]
    rfl
def runP (room W : Int) (f : Pr → Bool) : Int → List Pr → List Int
  | _, [] => []
  | cum, x :: r => if f x = true then (room * (cum + x.2) / W - room * cum / W) :: runP room W f (cum + x.2) r else lim x :: runP room W f cum r
def setAll {α : Type} : List α → List (Nat × α) → List α
  | l, [] => l
  | l, (i, v) :: r => setAll (l.set i v) r
theorem setAll_snoc {α : Type} : ∀ (q : List (Nat × α)) (l : List α) (i : Nat) (v : α), setAll l (q ++ [(i, v)]) = (setAll l q).set i v
  | [], _, _, _ => rfl
  | (j, u) :: r, l, i, v => setAll_snoc r (l.set j u) i v
theorem setAll_len {α : Type} : ∀ (q : List (Nat × α)) (l : List α), (setAll l q).length = l.length
  | [], _ => rfl
  | (j, u) :: r, l => by
    show (setAll (l.set j u) r).length = _
    rw [setAll_len r]
    simp
theorem setAll_run {α : Type} (room W : Int) (f : Pr → Bool) (e : Int → α) (o : Pr → α) : ∀ (ps : List Pr) (pre : List α) (cum : Int), (∀ x ∈ ps, f x = false → o x = e (lim x)) →
    setAll (pre ++ ps.map o) ((((ps.zipIdx pre.length).filter fun x => f x.1).map fun x => x.2).zip ((runs room W cum (((ps.zipIdx pre.length).filter fun x => f x.1).map fun x => x.1.2)).map e)) = pre ++ (runP room W f cum ps).map e
  | [], pre, cum, _ => rfl
  | x :: r, pre, cum, h => by
    have hr : ∀ y ∈ r, f y = false → o y = e (lim y) := fun y hy => h y (List.mem_cons_of_mem _ hy)
    rw [List.zipIdx_cons]
    cases hf : f x with
    | true =>
      have ih := setAll_run room W f e o r (pre ++ [e (room * (cum + x.2) / W - room * cum / W)]) (cum + x.2) hr
      rw [List.length_append, List.length_singleton] at ih
      rw [List.filter_cons_of_pos (by exact hf)]
      show setAll ((pre ++ (o x :: r.map o)).set pre.length _) _ = _
      have es : ∀ v : α, (pre ++ (o x :: r.map o)).set pre.length v = pre ++ (v :: r.map o) := fun v => by simp
      rw [es]
      unfold runP
      rw [if_pos hf, List.map_cons]
      rw [List.append_assoc, List.append_assoc] at ih
      exact ih
    | false =>
      have ih := setAll_run room W f e o r (pre ++ [e (lim x)]) cum hr
      rw [List.length_append, List.length_singleton] at ih
      rw [List.filter_cons_of_neg (by rw [hf]; decide)]
      unfold runP
      rw [if_neg (by rw [hf]; decide), List.map_cons, List.map_cons, h x List.mem_cons_self hf]
      rw [List.append_assoc, List.append_assoc] at ih
      exact ih

/-! ### one level and no other -/
def val (cap : Bool) (top bot : Int) (x : Pr) : Int := if free cap top bot x = true then top * x.2 else lim x * bot
structure Val (cap : Bool) (total : Int) (ls : List Pr) (top bot : Int) : Prop where
  b0 : 0 < bot
  t0 : 0 ≤ top
  sum : (ls.map (val cap top bot)).sum = total * bot
  fr : ∃ x ∈ ls, free cap top bot x = true
theorem free_iff {cap : Bool} {top bot : Int} {x : Pr} : free cap top bot x = true ↔ 0 < x.2 ∧ bnd cap x top bot = false := by
  unfold free
  rw [Bool.and_eq_true, decide_eq_true_eq, Bool.not_eq_true']
theorem sum_val (cap : Bool) (top bot : Int) : ∀ ls : List Pr, (ls.map (val cap top bot)).sum = top * sumW (ls.filter (free cap top bot)) + sumL (ls.filter fun x => !free cap top bot x) * bot
  | [] => by simp [sumW, sumL]
  | x :: r => by
    rw [List.map_cons, List.sum_cons, sum_val cap top bot r, List.filter_cons, List.filter_cons]
    unfold val sumW sumL
    cases h : free cap top bot x with
    | true =>
      simp only [if_true, Bool.not_true, Bool.false_eq_true, if_false, List.map_cons, List.sum_cons]
      rw [Int.mul_add]
      omega
    | false =>
      simp only [if_true, Bool.not_false, Bool.false_eq_true, if_false, List.map_cons, List.sum_cons]
      rw [Int.add_mul]
      omega
theorem Fix.val {cap : Bool} {total : Int} {ls : List Pr} {room W : Int} (h : Fix cap total ls room W) : Val cap total ls room W := by
  refine ⟨h.w0, h.r0, ?_, ?_⟩
  · rw [sum_val, ← h.eW]
    have e := h.eR
    generalize sumL (ls.filter fun x => !free cap room W x) = z at e
    rw [e, Int.sub_mul]
    omega
  · refine Classical.byContradiction fun hn => ?_
    have e := h.eW
    rw [none_free hn] at e
    have := h.w0
    have z : sumW [] = 0 := rfl
    omega
theorem sum_le_lt (f g : Pr → Int) : ∀ ls : List Pr, (∀ x ∈ ls, f x ≤ g x) → (ls.map f).sum ≤ (ls.map g).sum
  | [], _ => Int.le_refl _
  | x :: r, h => by
    have h1 := h x List.mem_cons_self
    have h2 := sum_le_lt f g r fun y hy => h y (List.mem_cons_of_mem _ hy)
    simp only [List.map_cons, List.sum_cons]
    omega
theorem sum_lt (f g : Pr → Int) {ls : List Pr} (h : ∀ x ∈ ls, f x ≤ g x) (hx : ∃ x ∈ ls, f x < g x) : (ls.map f).sum < (ls.map g).sum := by
  obtain ⟨x, hx, hlt⟩ := hx
  obtain ⟨s, t, e⟩ := List.append_of_mem hx
  rw [e] at h ⊢
  have h1 := sum_le_lt f g s fun y hy => h y (List.mem_append_left _ hy)
  have h2 := sum_le_lt f g t fun y hy => h y (List.mem_append_right _ (List.mem_cons_of_mem _ hy))
  rw [List.map_append, List.map_append, List.sum_append, List.sum_append, List.map_cons, List.map_cons, List.sum_cons, List.sum_cons]
  omega
theorem sum_mulr (f : Pr → Int) (k : Int) : ∀ ls : List Pr, (ls.map fun x => f x * k).sum = (ls.map f).sum * k
  | [] => by simp
  | x :: r => by
    rw [List.map_cons, List.map_cons, List.sum_cons, List.sum_cons, sum_mulr f k r, Int.add_mul]
theorem not_bnd_cap {x : Pr} {top bot : Int} (h : bnd true x top bot = false) (hk : x.1 ≠ none) : top * x.2 < lim x * bot := by
  refine Int.not_le.mp fun z => ?_
  rw [bnd_cap_of hk z] at h
  cases h
theorem not_bnd_flo {x : Pr} {top bot : Int} (h : bnd false x top bot = false) : lim x * bot < top * x.2 := by
  refine Int.not_le.mp fun z => ?_
  rw [bnd_flo_of z] at h
  cases h
theorem not_free_bnd {cap : Bool} {top bot : Int} {x : Pr} (hx : 0 < x.2) (h : free cap top bot x = false) : bnd cap x top bot = true := by
  cases e : bnd cap x top bot with
  | true => rfl
  | false => rw [free_iff.mpr ⟨hx, e⟩] at h; cases h
theorem Val.not_lt {cap : Bool} {total : Int} {ls : List Pr} {r1 w1 r2 w2 : Int} (h1 : Val cap total ls r1 w1) (h2 : Val cap total ls r2 w2) : ¬ r1 * w2 < r2 * w1 := by
  intro hlt
  have p1 := h1.b0
  have p2 := h2.b0
  have key : ∀ x ∈ ls, val cap r1 w1 x * w2 ≤ val cap r2 w2 x * w1 ∧ ((if cap = true then free cap r1 w1 x = true else free cap r2 w2 x = true) → val cap r1 w1 x * w2 < val cap r2 w2 x * w1) := fun x _ => by
    have c1 : r1 * x.2 * w2 = r1 * w2 * x.2 := by rw [Int.mul_assoc, Int.mul_comm x.2, ← Int.mul_assoc]
    have c2 : r2 * x.2 * w1 = r2 * w1 * x.2 := by rw [Int.mul_assoc, Int.mul_comm x.2, ← Int.mul_assoc]
    have c3 : lim x * w1 * w2 = lim x * w2 * w1 := by rw [Int.mul_assoc, Int.mul_comm w1, ← Int.mul_assoc]
    unfold val
    cases e1 : free cap r1 w1 x with
    | true =>
      obtain ⟨x0, b1⟩ := free_iff.mp e1
      have g1 : r1 * w2 * x.2 < r2 * w1 * x.2 := Int.mul_lt_mul_of_pos_right hlt x0
      cases e2 : free cap r2 w2 x with
      | true =>
        simp only [if_true]
        rw [c1, c2]
        exact ⟨by omega, fun _ => g1⟩
      | false =>
        have b2 := not_free_bnd x0 e2
        simp only [if_true, Bool.false_eq_true, if_false]
        cases cap with
        | true =>
          have hk := bnd_cap b2
          have g3 := Int.mul_lt_mul_of_pos_right (not_bnd_cap b1 hk.1) p2
          rw [c3] at g3
          exact ⟨by omega, fun _ => g3⟩
        | false =>
          have g3 := Int.mul_le_mul_of_nonneg_right (bnd_flo b2) (Int.le_of_lt p1)
          rw [c2] at g3
          rw [c1]
          exact ⟨by omega, fun z => by simp at z⟩
    | false =>
      cases e2 : free cap r2 w2 x with
      | true =>
        obtain ⟨x0, b2⟩ := free_iff.mp e2
        have g1 : r1 * w2 * x.2 < r2 * w1 * x.2 := Int.mul_lt_mul_of_pos_right hlt x0
        have b1 := not_free_bnd x0 e1
        simp only [if_true, Bool.false_eq_true, if_false]
        cases cap with
        | true =>
          have g3 := Int.mul_le_mul_of_nonneg_right (bnd_cap b1).2 (Int.le_of_lt p2)
          rw [c1] at g3
          rw [c2]
          exact ⟨by omega, fun z => by simp at z⟩
        | false =>
          have g3 := Int.mul_lt_mul_of_pos_right (not_bnd_flo b2) p1
          rw [← c3] at g3
          exact ⟨by omega, fun _ => g3⟩
      | false =>
        simp only [Bool.false_eq_true, if_false]
        rw [c3]
        exact ⟨Int.le_refl _, fun z => by cases cap <;> simp at z⟩
  have hex : ∃ x ∈ ls, val cap r1 w1 x * w2 < val cap r2 w2 x * w1 := by
    cases cap with
    | true =>
      obtain ⟨x, hx, e⟩ := h1.fr
      exact ⟨x, hx, (key x hx).2 (by simpa using e)⟩
    | false =>
      obtain ⟨x, hx, e⟩ := h2.fr
      exact ⟨x, hx, (key x hx).2 (by simpa using e)⟩
  have hs := sum_lt (fun x => val cap r1 w1 x * w2) (fun x => val cap r2 w2 x * w1) (fun x hx => (key x hx).1) hex
  rw [sum_mulr, sum_mulr, h1.sum, h2.sum, Int.mul_assoc, Int.mul_assoc, Int.mul_comm w1] at hs
  omega
theorem Val.unique {cap : Bool} {total : Int} {ls : List Pr} {r1 w1 r2 w2 : Int} (h1 : Val cap total ls r1 w1) (h2 : Val cap total ls r2 w2) : r1 * w2 = r2 * w1 := by
  have a := h1.not_lt h2
  have b := h2.not_lt h1
  omega
theorem bnd_same {cap : Bool} {r1 w1 r2 w2 : Int} (p1 : 0 < w1) (p2 : 0 < w2) (h : r1 * w2 = r2 * w1) (x : Pr) : bnd cap x r1 w1 = bnd cap x r2 w2 := by
  have c1 : r1 * x.2 * w2 = r1 * w2 * x.2 := by rw [Int.mul_assoc, Int.mul_comm x.2, ← Int.mul_assoc]
  have c2 : r2 * x.2 * w1 = r2 * w1 * x.2 := by rw [Int.mul_assoc, Int.mul_comm x.2, ← Int.mul_assoc]
  have c3 : lim x * w1 * w2 = lim x * w2 * w1 := by rw [Int.mul_assoc, Int.mul_comm w1, ← Int.mul_assoc]
  have k1 : lim x * w1 ≤ r1 * x.2 ↔ lim x * w2 ≤ r2 * x.2 := by
    constructor
    · intro a
      have := Int.mul_le_mul_of_nonneg_right a (Int.le_of_lt p2)
      rw [c1, h, ← c2, c3] at this
      exact Int.le_of_mul_le_mul_right this p1
    · intro a
      have := Int.mul_le_mul_of_nonneg_right a (Int.le_of_lt p1)
      rw [c2, ← h, ← c1, ← c3] at this
      exact Int.le_of_mul_le_mul_right this p2
  have k2 : r1 * x.2 ≤ lim x * w1 ↔ r2 * x.2 ≤ lim x * w2 := by
    constructor
    · intro a
      have := Int.mul_le_mul_of_nonneg_right a (Int.le_of_lt p2)
      rw [c1, h, ← c2, c3] at this
      exact Int.le_of_mul_le_mul_right this p1
    · intro a
      have := Int.mul_le_mul_of_nonneg_right a (Int.le_of_lt p1)
      rw [c2, ← h, ← c1, ← c3] at this
      exact Int.le_of_mul_le_mul_right this p2
  obtain ⟨c, w⟩ := x
  cases cap with
  | true =>
    cases c with
    | none => rfl
    | some c => exact decide_eq_decide.mpr k1
  | false => exact decide_eq_decide.mpr k2
theorem free_same {cap : Bool} {r1 w1 r2 w2 : Int} (p1 : 0 < w1) (p2 : 0 < w2) (h : r1 * w2 = r2 * w1) (x : Pr) : free cap r1 w1 x = free cap r2 w2 x := by
  unfold free
  rw [bnd_same p1 p2 h]
def low (room W : Int) : Int × Int := (((room.toNat / Nat.gcd room.toNat W.toNat : Nat) : Int), ((W.toNat / Nat.gcd room.toNat W.toNat : Nat) : Int))
theorem low_nat {r w t b : Nat} (h : r * b = t * w) (hg : Nat.gcd t b = 1) (hb : 0 < b) (hw : 0 < w) : r / Nat.gcd r w = t ∧ w / Nat.gcd r w = b := by
  have hd : b ∣ w := by
    have h1 : b ∣ t * w := ⟨r, by rw [← h, Nat.mul_comm]⟩
    exact Nat.Coprime.dvd_of_dvd_mul_left (Nat.Coprime.symm hg) h1
  obtain ⟨k, rfl⟩ := hd
  have hk : 0 < k := Nat.pos_of_mul_pos_left hw
  have hr : r = t * k := by
    have : r * b = t * k * b := by rw [h, Nat.mul_comm b k, Nat.mul_assoc]
    exact Nat.eq_of_mul_eq_mul_right hb this
  subst hr
  rw [Nat.gcd_mul_right, hg, Nat.one_mul]
  exact ⟨Nat.mul_div_cancel _ hk, Nat.mul_div_cancel _ hk⟩
theorem low_of {room W : Int} {t b : Nat} (h : room * (b : Int) = (t : Int) * W) (hg : Nat.gcd t b = 1) (hb : 0 < b) (hw : 0 < W) (hr : 0 ≤ room) : low room W = ((t : Int), (b : Int)) := by
  have e1 : (room.toNat : Int) = room := Int.toNat_of_nonneg hr
  have e2 : (W.toNat : Int) = W := Int.toNat_of_nonneg (Int.le_of_lt hw)
  have h2 : room.toNat * b = t * W.toNat := by
    have : ((room.toNat * b : Nat) : Int) = ((t * W.toNat : Nat) : Int) := by
      rw [Int.natCast_mul, Int.natCast_mul, e1, e2]
      exact h
    exact Int.ofNat.inj this
  obtain ⟨a1, a2⟩ := low_nat h2 hg hb (by omega)
  unfold low
  rw [a1, a2]
theorem low_pos {room W : Int} (hw : 0 < W) (hr : 0 ≤ room) : ∃ t b : Nat, low room W = ((t : Int), (b : Int)) ∧ Nat.gcd t b = 1 ∧ 0 < b ∧ room * (b : Int) = (t : Int) * W := by
  have e1 : (room.toNat : Int) = room := Int.toNat_of_nonneg hr
  have e2 : (W.toNat : Int) = W := Int.toNat_of_nonneg (Int.le_of_lt hw)
  have g0 : 0 < Nat.gcd room.toNat W.toNat := Nat.gcd_pos_of_pos_right _ (by omega)
  refine ⟨_, _, rfl, ?_, ?_, ?_⟩
  · exact Nat.gcd_div_gcd_div_gcd_of_pos_right (by omega)
  · exact Nat.div_pos (Nat.le_of_dvd (by omega) (Nat.gcd_dvd_right _ _)) g0
  · obtain ⟨k, hk⟩ := Nat.gcd_dvd_left room.toNat W.toNat
    obtain ⟨j, hj⟩ := Nat.gcd_dvd_right room.toNat W.toNat
    have d1 : room.toNat / Nat.gcd room.toNat W.toNat = k := by
      conv => lhs; lhs; rw [hk]
      exact Nat.mul_div_cancel_left _ g0
    have d2 : W.toNat / Nat.gcd room.toNat W.toNat = j := by
      conv => lhs; lhs; rw [hj]
      exact Nat.mul_div_cancel_left _ g0
    rw [d1, d2]
    have : room.toNat * j = k * W.toNat := by
      conv => lhs; rw [hk]
      conv => rhs; rw [hj]
      rw [Nat.mul_comm (Nat.gcd _ _) k, Nat.mul_assoc]
    have h3 : ((room.toNat * j : Nat) : Int) = ((k * W.toNat : Nat) : Int) := by rw [this]
    rw [Int.natCast_mul, Int.natCast_mul, e1, e2] at h3
    exact h3
/-- the parts, where all comes out whole -/
theorem runP_exact {room W top bot : Int} (hw : 0 < W) (h : room * bot = top * W) (f : Pr → Bool) : ∀ (ls : List Pr) (u : Int), (∀ x ∈ ls, ∃ k, x.2 = k * bot) → 0 < bot → runP room W f (u * bot) ls = ls.map fun x => if f x = true then top * (x.2 / bot) else lim x
  | [], _, _, _ => rfl
  | x :: r, u, hd, hb => by
    obtain ⟨k, hk⟩ := hd x List.mem_cons_self
    have hr : ∀ y ∈ r, ∃ k, y.2 = k * bot := fun y hy => hd y (List.mem_cons_of_mem _ hy)
    have q : ∀ v : Int, room * (v * bot) / W = top * v := fun v => by
      rw [Int.mul_comm v, ← Int.mul_assoc, h, Int.mul_assoc, Int.mul_comm W, ← Int.mul_assoc]
      exact Int.mul_ediv_cancel _ (by omega)
    have hx : x.2 / bot = k := by rw [hk]; exact Int.mul_ediv_cancel _ (by omega)
    unfold runP
    rw [List.map_cons]
    cases hf : f x with
    | true =>
      rw [if_pos rfl, if_pos rfl, hx, hk, ← Int.add_mul, q, q, runP_exact hw h f r (u + k) hr hb, Int.mul_add]
      congr 1
      omega
    | false =>
      rw [if_neg (by decide), if_neg (by decide), runP_exact hw h f r u hr hb]
theorem Val.over {total : Int} {ls : List Pr} {top bot : Int} (h : Val true total ls top bot) (hk : ∀ x ∈ ls, x.1 ≠ none) (hz : ∀ x ∈ ls, x.2 ≤ 0 → lim x * bot = val true top bot x) : total < sumL ls := by
  refine Int.not_le.mp fun z => ?_
  have b0 := h.b0
  have s := sum_lt (val true top bot) (fun x => lim x * bot) (ls := ls) (fun x hx => ?_) ?_
  · rw [h.sum, sum_mulr] at s
    have := Int.mul_le_mul_of_nonneg_right z (Int.le_of_lt b0)
    unfold sumL at this
    omega
  · by_cases hx0 : x.2 ≤ 0
    · rw [hz x hx hx0]
      exact Int.le_refl _
    · unfold val
      cases e : free true top bot x with
      | true => exact Int.le_of_lt (not_bnd_cap (free_iff.mp e).2 (hk x hx))
      | false => exact Int.le_refl _
  · obtain ⟨x, hx, e⟩ := h.fr
    refine ⟨x, hx, ?_⟩
    show val true top bot x < lim x * bot
    unfold val
    rw [if_pos e]
    exact not_bnd_cap (free_iff.mp e).2 (hk x hx)
theorem Val.under {total : Int} {ls : List Pr} {top bot : Int} (h : Val false total ls top bot) : sumL ls < total := by
  refine Int.not_le.mp fun z => ?_
  have b0 := h.b0
  have s := sum_lt (fun x => lim x * bot) (val false top bot) (ls := ls) (fun x hx => ?_) ?_
  · rw [h.sum, sum_mulr] at s
    have := Int.mul_le_mul_of_nonneg_right z (Int.le_of_lt b0)
    unfold sumL at this
    omega
  · show lim x * bot ≤ val false top bot x
    unfold val
    cases e : free false top bot x with
    | true => exact Int.le_of_lt (not_bnd_flo (free_iff.mp e).2)
    | false => exact Int.le_refl _
  · obtain ⟨x, hx, e⟩ := h.fr
    refine ⟨x, hx, ?_⟩
    show lim x * bot < val false top bot x
    unfold val
    rw [if_pos e]
    exact not_bnd_flo (free_iff.mp e).2

/-! ### comprehensions whose turns tell one value or none -/
theorem big {n : Nat} (h : n ≤ 16000000) : n < sizeLine := Nat.lt_of_le_of_lt h (by decide)
theorem bigl {n : Nat} (h : n ≤ 16000000) : n ≤ sizeLine := Nat.le_of_lt (big h)
theorem fm_succ {α β : Type} {as : List α} {F : α → Option β} {i : Nat} {a : α} (h : as[i]? = some a) : (as.take (i + 1)).filterMap F = (as.take i).filterMap F ++ (F a).toList := by
  rw [List.take_add_one, h, List.filterMap_append]
  cases e : F a <;> simp [List.filterMap_cons, e]
theorem fm_len {α β : Type} (F : α → Option β) (as : List α) (i : Nat) : ((as.take i).filterMap F).length ≤ as.length := by
  refine Nat.le_trans (List.length_filterMap_le _ _) ?_
  rw [List.length_take]
  omega
theorem same_mut {H1 H : Hp} {D : Addr} {o : HO} (n : H1 D = none) (s : Same H1 H) : Same H1 (upd H D o) := fun b x e => by
  rw [upd_ne (ne_of_none e n)]
  exact s _ _ e
section
variable {K : PySem.W.Frag} {α β γ : Type}
theorem lcF_list {a : Addr} {as : List α} (e : α → V) {j : Nat} {tt : TT} {te : TE} {vs : List Nat} {σ : L2.St} {H1 : Hp} {D : Addr} {Qd : Hp → Prop} (F : α → Option β) (e2 : β → V) (hS : SqL K H1 a (as.map e)) (nD : H1 D = none) (hz : as.length ≤ 40000)
    (hs : ∀ (i : Nat) x H (A : V → Hp → Prop) (B : Hp → Prop), as[i]? = some x → Same H1 H → (∀ z H', F x = some z → Same H H' → A (e2 z) H') → (∀ H', F x = none → Same H H' → B H') →
      wipe ((wipe σ vs).set j (some (e x))) vs = wipe σ vs ∧ tt ((wipe σ vs).set j (some (e x))) H fun b H3 => if b = true then te ((wipe σ vs).set j (some (e x))) H3 A else B H3)
    (hd : ∀ H, Same H1 H → H D = some (.lst ((as.filterMap F).map e2)) → Qd H) :
    ∃ W : Nat → Nat → Hp → Prop, (∃ m, W 0 m (upd H1 D (.lst []))) ∧ ∀ i m H, W i m H →
      ((Itl K a).stop i H ∧ Qd H) ∨ ((Itl K a).go i H ∧ ∃ Nx : Hp → Prop, (∀ H', Nx H' → ∃ m', m' < m ∧ W (i + 1) m' H') ∧ ∀ x H', (Itl K a).yld i H x H' → gName j x (wipe σ vs) H' fun σ2 H2 => wipe σ2 vs = wipe σ vs ∧ tt σ2 H2 fun b H3 =>
        if b = true then te σ2 H3 fun y H4 => ∃ acc, H4 D = some (.lst acc) ∧ acc.length < sizeLine ∧ Nx (upd H4 D (.lst (acc ++ [y]))) else Nx H3) := by
  refine lc_it (walk_list (xs := as.map e)) (fun i H => H D = some (.lst (((as.take i).filterMap F).map e2)) ∧ Same H1 H) ⟨upd_same, same_upd nD⟩ (fun i H _ h => h.2.seq hS) ?_ ?_
  · rintro i y H H' hi ⟨eD, sm⟩ ⟨rfl, hy⟩
    rw [List.getElem?_map] at hy
    cases ex : as[i]? with
    | none => rw [ex] at hy; cases hy
    | some x =>
      rw [ex] at hy
      cases hy
      refine hs i x H' _ _ ex sm (fun z H4 hz4 s4 => ⟨_, s4 _ _ eD, ?_, ?_, same_mut nD (sm.trans s4)⟩) (fun H3 h3 s3 => ⟨?_, sm.trans s3⟩)
      · rw [List.length_map]
        exact big (Nat.le_trans (fm_len F as i) (by omega))
      · rw [upd_same, fm_succ ex, hz4, List.map_append]
        rfl
      · rw [fm_succ ex, h3]
        simpa using s3 _ _ eD
  · rintro H ⟨eD, sm⟩
    rw [List.length_map, List.take_length] at eD
    exact hd H sm eD
theorem lcF_zip {a b : Addr} {as : List α} {bs : List β} (e : α → V) (e' : β → V) {j1 j2 : Nat} {tt : TT} {te : TE} {vs : List Nat} {σ : L2.St} {H1 : Hp} {D : Addr} {Qd : Hp → Prop} (F : α → β → Option γ) (e2 : γ → V) (hS : SqL K H1 a (as.map e)) (hS2 : SqL K H1 b (bs.map e')) (nD : H1 D = none) (hz : as.length ≤ 40000)
    (hs : ∀ (i : Nat) x y H (A : V → Hp → Prop) (B : Hp → Prop), as[i]? = some x → bs[i]? = some y → Same H1 H → (∀ z H', F x y = some z → Same H H' → A (e2 z) H') → (∀ H', F x y = none → Same H H' → B H') →
      wipe (((wipe σ vs).set j1 (some (e x))).set j2 (some (e' y))) vs = wipe σ vs ∧ tt (((wipe σ vs).set j1 (some (e x))).set j2 (some (e' y))) H fun b H3 => if b = true then te (((wipe σ vs).set j1 (some (e x))).set j2 (some (e' y))) H3 A else B H3)
    (hd : ∀ H, Same H1 H → H D = some (.lst (((as.zip bs).filterMap fun p => F p.1 p.2).map e2)) → Qd H) :
    ∃ W : Nat → Nat → Hp → Prop, (∃ m, W 0 m (upd H1 D (.lst []))) ∧ ∀ i m H, W i m H →
      ((Itz K a b).stop i H ∧ Qd H) ∨ ((Itz K a b).go i H ∧ ∃ Nx : Hp → Prop, (∀ H', Nx H' → ∃ m', m' < m ∧ W (i + 1) m' H') ∧ ∀ x H', (Itz K a b).yld i H x H' → gTup K 2 (gCons (gName j1) (gCons (gName j2) gNil)) x (wipe σ vs) H' fun σ2 H2 => wipe σ2 vs = wipe σ vs ∧ tt σ2 H2 fun b H3 =>
        if b = true then te σ2 H3 fun y H4 => ∃ acc, H4 D = some (.lst acc) ∧ acc.length < sizeLine ∧ Nx (upd H4 D (.lst (acc ++ [y]))) else Nx H3) := by
  have hlen : (as.zip bs).length = min (as.map e).length (bs.map e').length := by rw [List.length_zip, List.length_map, List.length_map]
  refine lc_it (L2.walk_zip (xs := as.map e) (ys := bs.map e') hlen) (fun i H => H D = some (.lst ((((as.zip bs).take i).filterMap fun p => F p.1 p.2).map e2)) ∧ Same H1 H) ⟨upd_same, same_upd nD⟩ (fun i H _ h => ⟨h.2.seq hS, h.2.seq hS2⟩) ?_ ?_
  · rintro i y H H' hi ⟨eD, sm⟩ ⟨T, x, z, rfl, nT, rfl, hx, hy⟩
    rw [List.length_zip] at hi
    have l1 : i < as.length := by omega
    have l2 : i < bs.length := by omega
    have e1 : as[i]? = some as[i] := List.getElem?_eq_getElem l1
    have e3 : bs[i]? = some bs[i] := List.getElem?_eq_getElem l2
    replace hx : (as.map e)[i]? = some x := hx
    replace hy : (bs.map e')[i]? = some z := hy
    rw [List.getElem?_map, e1] at hx
    rw [List.getElem?_map, e3] at hy
    cases hx
    cases hy
    have ez : (as.zip bs)[i]? = some (as[i], bs[i]) := by
      rw [List.getElem?_zip_eq_some]
      exact ⟨e1, e3⟩
    have sT := same_upd (o := .tup [e as[i], e' bs[i]]) nT
    refine ⟨T, _, rfl, .of upd_same, rfl, _, _, rfl, _, _, rfl, rfl, ?_⟩
    refine hs i as[i] bs[i] _ _ _ e1 e3 (sm.trans sT) (fun z H4 hz4 s4 => ⟨_, s4 _ _ (sT _ _ eD), ?_, ?_, same_mut nD ((sm.trans sT).trans s4)⟩) (fun H3 h3 s3 => ⟨?_, (sm.trans sT).trans s3⟩)
    · rw [List.length_map]
      refine big (Nat.le_trans (fm_len _ _ i) ?_)
      rw [List.length_zip]
      omega
    · rw [upd_same, fm_succ ez, hz4, List.map_append]
      rfl
    · rw [fm_succ ez, h3]
      simpa using s3 _ _ (sT _ _ eD)
  · rintro H ⟨eD, sm⟩
    rw [List.take_length] at eD
    exact hd H sm eD
theorem lcF_enum {a : Addr} {as : List α} (e : α → V) {j1 j2 : Nat} {tt : TT} {te : TE} {vs : List Nat} {σ : L2.St} {H1 : Hp} {D : Addr} {Qd : Hp → Prop} (F : α × Nat → Option γ) (e2 : γ → V) (hS : SqL K H1 a (as.map e)) (nD : H1 D = none) (hz : as.length ≤ 40000)
    (hs : ∀ (i : Nat) x H (A : V → Hp → Prop) (B : Hp → Prop), as[i]? = some x → Same H1 H → (∀ z H', F (x, i) = some z → Same H H' → A (e2 z) H') → (∀ H', F (x, i) = none → Same H H' → B H') →
      wipe (((wipe σ vs).set j1 (some (.int (i : Nat)))).set j2 (some (e x))) vs = wipe σ vs ∧ tt (((wipe σ vs).set j1 (some (.int (i : Nat)))).set j2 (some (e x))) H fun b H3 => if b = true then te (((wipe σ vs).set j1 (some (.int (i : Nat)))).set j2 (some (e x))) H3 A else B H3)
    (hd : ∀ H, Same H1 H → H D = some (.lst ((as.zipIdx.filterMap F).map e2)) → Qd H) :
    ∃ W : Nat → Nat → Hp → Prop, (∃ m, W 0 m (upd H1 D (.lst []))) ∧ ∀ i m H, W i m H →
      ((Ite K a).stop i H ∧ Qd H) ∨ ((Ite K a).go i H ∧ ∃ Nx : Hp → Prop, (∀ H', Nx H' → ∃ m', m' < m ∧ W (i + 1) m' H') ∧ ∀ x H', (Ite K a).yld i H x H' → gTup K 2 (gCons (gName j1) (gCons (gName j2) gNil)) x (wipe σ vs) H' fun σ2 H2 => wipe σ2 vs = wipe σ vs ∧ tt σ2 H2 fun b H3 =>
        if b = true then te σ2 H3 fun y H4 => ∃ acc, H4 D = some (.lst acc) ∧ acc.length < sizeLine ∧ Nx (upd H4 D (.lst (acc ++ [y]))) else Nx H3) := by
  refine lc_it (walk_enum (xs := as.map e)) (fun i H => H D = some (.lst (((as.zipIdx.take i).filterMap F).map e2)) ∧ Same H1 H) ⟨upd_same, same_upd nD⟩ (fun i H _ h => h.2.seq hS) ?_ ?_
  · rintro i y H H' hi ⟨eD, sm⟩ ⟨T, x, z, rfl, nT, rfl, hx, hy⟩
    rw [List.length_map] at hi
    have e1 : as[i]? = some as[i] := List.getElem?_eq_getElem hi
    replace hy : (as.map e)[i]? = some z := hy
    rw [List.getElem?_map, e1] at hy
    cases hx
    cases hy
    have ez : as.zipIdx[i]? = some (as[i], i) := by
      rw [List.getElem?_zipIdx, e1]
      simp
    have sT := same_upd (o := .tup [.int (i : Nat), e as[i]]) nT
    refine ⟨T, _, rfl, .of upd_same, rfl, _, _, rfl, _, _, rfl, rfl, ?_⟩
    refine hs i as[i] _ _ _ e1 (sm.trans sT) (fun z H4 hz4 s4 => ⟨_, s4 _ _ (sT _ _ eD), ?_, ?_, same_mut nD ((sm.trans sT).trans s4)⟩) (fun H3 h3 s3 => ⟨?_, (sm.trans sT).trans s3⟩)
    · rw [List.length_map]
      refine big (Nat.le_trans (fm_len _ _ i) ?_)
      rw [List.length_zipIdx]
      omega
    · rw [upd_same, fm_succ ez, hz4, List.map_append]
      rfl
    · rw [fm_succ ez, h3]
      simpa using s3 _ _ (sT _ _ eD)
  · rintro H ⟨eD, sm⟩
    rw [List.length_map, ← List.length_zipIdx (l := as) (i := 0), List.take_length] at eD
    exact hd H sm eD
end

/-! ### the program: numbers dealt -/
def ov : Option Int → V
  | none => .non
  | some c => .int c
def small (i : Int) : Prop := i.natAbs < 2 ^ 400
theorem small_mul {i j : Int} (h : small i) (h2 : small j) : CMulW i j := wide_mul h h2 (by decide) (by decide) (by decide)
theorem small_le {i j : Int} (h0 : 0 ≤ i) (h : i ≤ j) (h2 : small j) : small i := Nat.lt_of_le_of_lt (by omega) h2
theorem small_div {i j : Int} (h0 : 0 < j) (h : small j) : CDivW i j := wide_div h0 h (by decide) (by decide)
def spWholeI : Sp := fun vs H Q _ => ∃ i : Int, vs = [.int i] ∧ Q (.bl true) H
def spCountI : Sp := fun vs H Q _ => ∃ i : Int, vs = [.int i] ∧ 0 ≤ i ∧ Q (.bl true) H
def spNoList : Sp := fun vs H Q _ => ∃ (a : Addr) (xs : List V), vs = [.ref a] ∧ H a = some (.lst xs) ∧ Q .non H
def spNoCounts : Sp := fun vs H Q _ => ∃ (a : Addr) (ns : List Int), vs = [.ref a] ∧ H a = some (.lst (ns.map V.int)) ∧ (∀ n ∈ ns, 0 ≤ n) ∧ Q .non H
def spNoWeights : Sp := fun vs H Q _ => ∃ (a : Addr) (ns : List Int), vs = [.ref a, .int (ns.length : Int)] ∧ H a = some (.lst (ns.map V.int)) ∧ (∀ n ∈ ns, 0 ≤ n) ∧ Q .non H
def spB (cap : Bool) : Sp := fun vs H Q _ => ∃ (x : Pr) (top bot : Int), vs = [ov x.1, .int x.2, .int top, .int bot] ∧ (cap = false → x.1 ≠ none) ∧ small (lim x) ∧ small x.2 ∧ small top ∧ small bot ∧ Q (.bl (bnd cap x top bot)) H
def spRun : Sp := fun vs H Q _ => ∃ (room : Int) (a : Addr) (ns : List Int), vs = [.int room, .ref a] ∧ H a = some (.lst (ns.map V.int)) ∧ (∀ n ∈ ns, 0 ≤ n) ∧ 0 < ns.sum ∧ small ns.sum ∧ small room ∧ ns.length ≤ 4000 ∧
  ∀ p H', H p = none → Same H H' → H' p = some (.lst ((runs room ns.sum 0 ns).map V.int)) → Q (.ref p) H'
def spLow : Sp := fun vs H Q _ => ∃ top bot : Nat, vs = [.int (top : Int), .int (bot : Int)] ∧ 0 < bot ∧ small (top : Int) ∧ small (bot : Int) ∧
  ∀ p H', H p = none → Same H H' → H' p = some (.tup [.int ((top / Nat.gcd top bot : Nat) : Int), .int ((bot / Nat.gcd top bot : Nat) : Int)]) → Q (.ref p) H'
def nmB : Bool → Str
  | true => "cap_binds"
  | false => "floor_binds"
def hasB (_ : Bool) : Prop := True
def p0 (x : Pr) : Bool := decide (0 < x.2)
def eI (x : Pr × Nat) : V := .int (x.2 : Nat)
def frI (cap : Bool) (room W : Int) (ps : List Pr) : List (Pr × Nat) := ps.zipIdx.filter fun x => free cap room W x.1
structure Fits (total : Int) (ps : List Pr) : Prop where
  good : Good ps
  t0 : 0 ≤ total
  t1 : small total
  l1 : ∀ x ∈ ps, small (lim x)
  w1 : small (sumW ps)
  n1 : ps.length ≤ 4000
def Lev0 (cap : Bool) (total : Int) (ps : List Pr) : Prop := Lev cap total ps p0 (total - sumL (ps.filter fun x => !p0 x)) (sumW (ps.filter p0))
def spUnb (mg : Str → Option Value) : Sp := fun vs H Q _ => ∃ (total : Int) (la wa f : Addr) (cap : Bool) (ps : List Pr), vs = [.int total, .ref la, .ref wa, .ref f] ∧ (mg (nmB cap) = some (.ref f) ∧ hasB cap) ∧ H la = some (.lst (ps.map fun x => ov x.1)) ∧ H wa = some (.lst (ps.map fun x => .int x.2)) ∧
  Fits total ps ∧ Lev0 cap total ps ∧
  ∀ t fl room W H', H t = none → Fix cap total ps room W → room ≤ total → W ≤ sumW ps → H' t = some (.tup [.ref fl, .int room, .int W]) → H' fl = some (.lst ((frI cap room W ps).map eI)) → Same H H' → Q (.ref t) H'
/-- what a level told is -/
def LvAt (H : Hp) (v : V) : Option (Int × Int) → Prop
  | none => v = .non
  | some (a, b) => ∃ q, v = .ref q ∧ H q = some (.tup [.int a, .int b])
def spBy (mg : Str → Option Value) : Sp := fun vs H Q _ => ∃ (total : Int) (la wa f : Addr) (cap : Bool) (ps : List Pr), vs = [.int total, .ref la, .ref wa, .ref f] ∧ (mg (nmB cap) = some (.ref f) ∧ hasB cap) ∧ H la = some (.lst (ps.map fun x => ov x.1)) ∧ H wa = some (.lst (ps.map fun x => .int x.2)) ∧
  Fits total ps ∧ Lev0 cap total ps ∧
  ∀ t p lv room W H', H t = none → H p = none → Fix cap total ps room W → H' t = some (.tup [lv, .ref p]) → LvAt H' lv (some (low room W)) → H' p = some (.lst ((runP room W (free cap room W) 0 ps).map V.int)) → Same H H' → Q (.ref t) H'
theorem fm_filter {α : Type} (p : α → Bool) : ∀ l : List α, (l.filterMap fun y => if p y = true then some y else none) = l.filter p
  | [] => rfl
  | x :: r => by
    rw [List.filterMap_cons, fm_filter p r, List.filter_cons]
    cases p x <;> rfl
theorem fm_some {α β : Type} (f : α → β) : ∀ l : List α, (l.filterMap fun y => some (f y)) = l.map f
  | [] => rfl
  | x :: r => by
    rw [List.filterMap_cons, fm_some f r]
    rfl
section
variable {P : Program} {w : World} {K : PySem.W.Frag} {mg : Str → Option Value} {base : Heap}
theorem ok_wholeI (T : Txt K mg) : Ok P w K mg base CX0 "is_whole" s_p_is_whole 1 ["thing"] spWholeI := by
  refine T.h_p_is_whole.ok sc_p_is_whole (fun vs H Q E h => ?_) (fun f cdv A outer s H vs Q E hr h => ?_)
  · obtain ⟨x, rfl, _⟩ := h; rfl
  obtain ⟨i, rfl, q⟩ := h
  refine ⟨_, (pss_one (ps_ret (pe_and (pe_callB call_isi (by rfl) T.m_isinstance (by decide +kernel) (pa_cons (pv 0) (pa_cons (pe_bltn (v := .ty "int") (by rfl) T.m_int (by decide +kernel) rfl) pa_nil))) (pe_one (pe_not (pe_callB call_isi (by rfl) T.m_isinstance (by decide +kernel) (pa_cons (pv 0) (pa_cons (pe_bltn (v := .ty "bool") (by rfl) T.m_bool (by decide +kernel) rfl) pa_nil)))))))), ?_⟩
  refine ⟨_, rfl, _, _, _, _, true, rfl, .ty _, .base (.int i), kit_ty (by decide +kernel), true, rfl, iteT ?_⟩
  exact ⟨_, rfl, _, _, _, _, false, rfl, .ty _, .base (.int i), kit_ty (by decide +kernel), false, rfl, q⟩
theorem ok_countI (T : Txt K mg) : Ok P w K mg base CX0 "is_count" s_p_is_count 2 ["thing"] spCountI := by
  have O_p_is_whole := ok_wholeI (P := P) (w := w) (base := base) T
  refine T.h_p_is_count.ok sc_p_is_count (fun vs H Q E h => ?_) (fun f cdv A outer s H vs Q E hr h => ?_)
  · obtain ⟨x, rfl, _⟩ := h; rfl
  obtain ⟨i, rfl, i0, q⟩ := h
  refine ⟨_, (pss_one (ps_ret (pe_and (callO O_p_is_whole (hr.mono (by decide)) (by rfl) (pa_cons (pv 0) pa_nil)) (pe_one (pe_cmpR op_ge (pv 0) pe_int (nomark _)))))), ?_⟩
  refine ⟨_, rfl, i, rfl, true, rfl, iteT ?_⟩
  refine ⟨_, rfl, _, _, rfl, rfl, ?_⟩
  show Q (.bl (decide (0 ≤ i))) H
  rw [decide_eq_true i0]
  exact q
theorem ok_no_list (T : Txt K mg) : Ok P w K mg base CX0 "refuse_no_list" s_p_refuse_no_list 1 ["thing"] spNoList := by
  refine T.h_p_refuse_no_list.ok sc_p_refuse_no_list (fun vs H Q E h => ?_) (fun f cdv A outer s H vs Q E hr h => ?_)
  · obtain ⟨a, x, rfl, _⟩ := h; rfl
  obtain ⟨a, x, rfl, ha, q⟩ := h
  refine ⟨_, (pss_one (ps_if (pt_not (pt_val (pe_callB call_isi (by rfl) T.m_isinstance (by decide +kernel) (pa_cons (pv 0) (pa_cons (pe_bltn (v := .ty "list") (by rfl) T.m_list (by decide +kernel) rfl) pa_nil)))))
      (pss_one ps_never)
      pss_nil)), ?_⟩
  exact ⟨_, rfl, _, _, _, _, true, rfl, .ty _, .base (.lst ha), kit_ty (by decide +kernel), true, rfl, iteF q⟩
theorem ok_no_counts (T : Txt K mg) : Ok P w K mg base CX0 "refuse_no_counts" s_p_refuse_no_counts 3 ["things"] spNoCounts := by
  have O_p_is_count := ok_countI (P := P) (w := w) (base := base) T
  refine T.h_p_refuse_no_counts.ok sc_p_refuse_no_counts (fun vs H Q E h => ?_) (fun f cdv A outer s H vs Q E hr h => ?_)
  · obtain ⟨a, x, rfl, _⟩ := h; rfl
  obtain ⟨a, ns, rfl, ha, h0, q⟩ := h
  refine ⟨_, (pss_one (ps_for PassesOwn.never rfl (pi_list (pv 0)) (pg_name (i := 1) sc_p_refuse_no_counts.nd rfl (by first | exact Or.inl rfl | exact Or.inr rfl))
      (pss_one (ps_if (pt_not (pt_val (callO O_p_is_count (hr.mono (by decide)) (by rfl) (pa_cons (pv 1) pa_nil))))
      (pss_one ps_never)
      pss_nil)))), ?_⟩
  refine ⟨_, rfl, a, rfl, ⟨_, .of ha⟩, for_list (K := K) (a := a) (xs := ns.map V.int) (fun i σ H' => ∃ v1, σ = [some (.ref a), v1] ∧ H' = H) ⟨none, rfl, rfl⟩ (fun i σ H' _ h => by obtain ⟨_, _, rfl⟩ := h; exact .of ha) ?_ ?_⟩
  · rintro i y σ H' hi ⟨v1, rfl, rfl⟩
    obtain ⟨z, rfl, hz⟩ := int_at hi
    exact ⟨_, rfl, z, rfl, h0 z (List.mem_of_getElem? hz), true, rfl, iteF ⟨_, rfl, rfl⟩⟩
  · rintro σ H' ⟨v1, rfl, rfl⟩
    exact q
theorem ok_no_weights (T : Txt K mg) : Ok P w K mg base CX0 "refuse_no_weights" s_p_refuse_no_weights 4 ["weights", "many"] spNoWeights := by
  have O_p_refuse_no_list := ok_no_list (P := P) (w := w) (base := base) T
  have O_p_refuse_no_counts := ok_no_counts (P := P) (w := w) (base := base) T
  refine T.h_p_refuse_no_weights.ok sc_p_refuse_no_weights (fun vs H Q E h => ?_) (fun f cdv A outer s H vs Q E hr h => ?_)
  · obtain ⟨a, x, rfl, _⟩ := h; rfl
  obtain ⟨a, ns, rfl, ha, h0, q⟩ := h
  refine ⟨_, (pss_cons (ps_expr (callO O_p_refuse_no_list (hr.mono (by decide)) (by rfl) (pa_cons (pv 0) pa_nil)))
      (pss_cons (ps_expr (callO O_p_refuse_no_counts (hr.mono (by decide)) (by rfl) (pa_cons (pv 0) pa_nil)))
      (pss_one (ps_if (pt_cmpR op_ne (pe_callB call_len (by rfl) T.m_len (by decide +kernel) (pa_cons (pv 0) pa_nil)) (pv 1) (nomark _))
      (pss_one ps_never)
      pss_nil)))), ?_⟩
  refine ⟨_, rfl, a, _, rfl, ha, ?_⟩
  refine ⟨_, rfl, a, ns, rfl, ha, h0, ?_⟩
  refine ⟨_, rfl, _, _, rfl, .inl ⟨_, .of ha, rfl⟩, _, rfl, rfl, _, rfl, ?_⟩
  rw [List.length_map, decide_eq_true rfl]
  exact iteF q
theorem ok_cap_binds (T : Txt K mg) : Ok P w K mg base CX0 "cap_binds" s_p_cap_binds 1 ["cap", "weight", "top", "bottom"] (spB true) := by
  refine T.h_p_cap_binds.ok sc_p_cap_binds (fun vs H Q E h => ?_) (fun f cdv A outer s H vs Q E hr h => ?_)
  · obtain ⟨a, _, _, rfl, _⟩ := h; rfl
  obtain ⟨⟨c, wt⟩, top, bot, rfl, _, s1, s2, s3, s4, q⟩ := h
  refine ⟨_, (pss_one (ps_ret (pe_and (pe_cmpR op_notN (pv 0) pe_non (nomark _)) (pe_one (pe_cmpR op_le (pe_op op_mulW (pv 0) (pv 3)) (pe_op op_mulW (pv 2) (pv 1)) (nomark _)))))), ?_⟩
  cases c with
  | none => exact ⟨_, rfl, rfl, _, rfl, iteF q⟩
  | some c => exact ⟨_, rfl, rfl, _, rfl, iteT ⟨_, rfl, _, rfl, _, _, rfl, rfl, small_mul s1 s4, _, rfl, _, rfl, _, _, rfl, rfl, small_mul s3 s2, _, _, rfl, rfl, q⟩⟩
theorem ok_floor_binds (T : Txt K mg) : Ok P w K mg base CX0 "floor_binds" s_p_floor_binds 1 ["floor", "weight", "top", "bottom"] (spB false) := by
  refine T.h_p_floor_binds.ok sc_p_floor_binds (fun vs H Q E h => ?_) (fun f cdv A outer s H vs Q E hr h => ?_)
  · obtain ⟨a, _, _, rfl, _⟩ := h; rfl
  obtain ⟨⟨c, wt⟩, top, bot, rfl, hk, s1, s2, s3, s4, q⟩ := h
  refine ⟨_, (pss_one (ps_ret (pe_cmpR op_ge (pe_op op_mulW (pv 0) (pv 3)) (pe_op op_mulW (pv 2) (pv 1)) (nomark _)))), ?_⟩
  cases c with
  | none => exact absurd rfl (hk rfl)
  | some c => exact ⟨_, rfl, _, rfl, _, _, rfl, rfl, small_mul s1 s4, _, rfl, _, rfl, _, _, rfl, rfl, small_mul s3 s2, _, _, rfl, rfl, q⟩
theorem take_sum_succ {ns : List Int} {i : Nat} {z : Int} (h : ns[i]? = some z) : (ns.take (i + 1)).sum = (ns.take i).sum + z := by
  rw [List.take_add_one, h, List.sum_append]
  simp
theorem take_sum_le {ns : List Int} (h : ∀ n ∈ ns, 0 ≤ n) (i : Nat) : 0 ≤ (ns.take i).sum ∧ (ns.take i).sum ≤ ns.sum := by
  have h1 := sum_nonneg (fun n : Int => n) (ns.take i) fun x hx => h x (List.mem_of_mem_take hx)
  have h2 := sum_nonneg (fun n : Int => n) (ns.drop i) fun x hx => h x (List.mem_of_mem_drop hx)
  have h3 : ns.sum = (ns.take i).sum + (ns.drop i).sum := by
    rw [← List.sum_append, List.take_append_drop]
  simp only [List.map_id'] at h1 h2
  omega
theorem ok_running (T : Txt K mg) : Ok P w K mg base CX0 "running_parts" s_p_running_parts 1 ["room", "weights"] spRun := by
  refine T.h_p_running_parts.ok sc_p_running_parts (fun vs H Q E h => ?_) (fun f cdv A outer s H vs Q E hr h => ?_)
  · obtain ⟨_, a, _, rfl, _⟩ := h; rfl
  obtain ⟨room, a, ns, rfl, ha, h0, hp, hs, hm, hl, q⟩ := h
  refine ⟨_, (pss_cons (ps_set (i := 2) sc_p_running_parts.nd rfl (by first | exact Or.inl rfl | exact Or.inr rfl) (pe_callB (cr_sum rfl) (by rfl) T.m_sum (by decide +kernel) (pa_cons (pv 1) pa_nil)))
      (pss_cons (ps_set (i := 3) sc_p_running_parts.nd rfl (by first | exact Or.inl rfl | exact Or.inr rfl) (pe_lst pa_nil))
      (pss_cons (ps_set (i := 4) sc_p_running_parts.nd rfl (by first | exact Or.inl rfl | exact Or.inr rfl) pe_int)
      (pss_cons (ps_set (i := 5) sc_p_running_parts.nd rfl (by first | exact Or.inl rfl | exact Or.inr rfl) pe_int)
      (pss_cons (ps_for PassesOwn.never rfl (pi_list (pv 1)) (pg_name (i := 6) sc_p_running_parts.nd rfl (by first | exact Or.inl rfl | exact Or.inr rfl))
      (pss_cons (ps_aug (i := 4) sc_p_running_parts.nd rfl (by first | exact Or.inl rfl | exact Or.inr rfl) (pv 6) ip_add)
      (pss_cons (ps_set (i := 7) sc_p_running_parts.nd rfl (by first | exact Or.inl rfl | exact Or.inr rfl) (pe_op op_fdivW (pe_op op_mulW (pv 0) (pv 4)) (pv 2)))
      (pss_cons (ps_expr (pe_bm PySem.F.plainAttrs_list PySem.F.slot_list_append PySem.F.type_list_append mt_append (pv 3) (pa_cons (pe_op op_sub (pv 7) (pv 5)) pa_nil)))
      (pss_one (ps_set (i := 5) sc_p_running_parts.nd rfl (by first | exact Or.inl rfl | exact Or.inr rfl) (pv 7)))))))
      (pss_one (ps_ret (pv 3)))))))), ?_⟩
  refine ⟨_, rfl, a, ns, rfl, .of ha, (by show 0 ≤ sizeLine; decide), fun S nS => ?_⟩
  have sS := same_upd (o := .lst []) nS
  have eS : (upd H S (.lst [])) S = some (.lst []) := upd_same
  generalize upd H S (.lst []) = HB at sS eS ⊢
  refine ⟨_, rfl, a, rfl, ⟨_, .of (sS _ _ ha)⟩, for_list (K := K) (a := a) (xs := ns.map V.int) (fun i σ H' => ∃ v6 v7, σ = [some (.int room), some (.ref a), some (.int ns.sum), some (.ref S), some (.int (ns.take i).sum), some (.int (room * (ns.take i).sum / ns.sum)), v6, v7] ∧ H' S = some (.lst ((runs room ns.sum 0 (ns.take i)).map V.int)) ∧ Same H H')
    ⟨none, none, by simp; rfl, eS, sS⟩ (fun i σ H' _ h => by obtain ⟨_, _, _, _, z⟩ := h; exact .of (z _ _ ha)) ?_ ?_⟩
  · rintro i y σ H' hi ⟨v6, v7, rfl, eSi, sm⟩
    obtain ⟨z, rfl, hz⟩ := int_at hi
    have b1 := take_sum_le h0 (i + 1)
    have e1 := take_sum_succ hz
    have hil : i < ns.length := (List.getElem?_eq_some_iff.mp hz).1
    refine ⟨_, rfl, _, rfl, _, _, rfl, rfl, ?_⟩
    refine ⟨_, rfl, _, rfl, _, _, rfl, rfl, small_mul hm (by show small ((ns.take i).sum + z); rw [← e1]; exact small_le b1.1 b1.2 hs), _, rfl, _, _, rfl, rfl, small_div hp hs, ?_⟩
    refine ⟨_, rfl, .inl ⟨rfl, _, .of eSi⟩, _, rfl, _, rfl, _, _, rfl, rfl, S, _, _, rfl, rfl, eSi, ?_, ?_⟩
    · rw [List.length_map, runs_len, List.length_take]
      exact big (by omega)
    refine ⟨_, rfl, _, _, by rw [e1]; rfl, ?_, same_mut nS sm⟩
    rw [upd_same, List.take_add_one, hz]
    show _ = some (HO.lst ((runs room ns.sum 0 (ns.take i ++ [z])).map V.int))
    rw [runs_snoc, Int.zero_add, List.map_append]
    rfl
  · rintro σ H' ⟨v6, v7, rfl, eSi, sm⟩
    rw [List.length_map, List.take_length] at eSi
    exact ⟨_, rfl, q S H' nS sm eSi⟩
theorem ok_low (T : Txt K mg) : Ok P w K mg base CX0 "in_lowest_terms" s_p_in_lowest_terms 1 ["top", "bottom"] spLow := by
  refine T.h_p_in_lowest_terms.ok sc_p_in_lowest_terms (fun vs H Q E h => ?_) (fun f cdv A outer s H vs Q E hr h => ?_)
  · obtain ⟨_, _, rfl, _⟩ := h; rfl
  obtain ⟨top, bot, rfl, hb, s1, s2, q⟩ := h
  refine ⟨_, (pss_cons (ps_set (i := 2) sc_p_in_lowest_terms.nd rfl (by first | exact Or.inl rfl | exact Or.inr rfl) (pv 1))
      (pss_cons (ps_set (i := 3) sc_p_in_lowest_terms.nd rfl (by first | exact Or.inl rfl | exact Or.inr rfl) (pv 0))
      (pss_cons (ps_while PassesOwn.never (pt_cmpR op_gt (pv 3) pe_int (nomark _))
      (pss_one (ps_par (i := 2) (j := 3) (by rfl) sc_p_in_lowest_terms.nd rfl rfl (by decide) rfl rfl (pa_cons (pv 3) (pa_cons (pe_op op_mod (pv 2) (pv 3)) pa_nil)) (by rfl))))
      (pss_one (ps_ret (pe_tup (pa_cons (pe_op op_fdivW (pv 0) (pv 2)) (pa_cons (pe_op op_fdivW (pv 1) (pv 2)) pa_nil)))))))), ?_⟩
  refine ⟨_, rfl, _, rfl, fun m σ H' => ∃ d r : Nat, σ = [some (.int (top : Int)), some (.int (bot : Int)), some (.int (d : Int)), some (.int (r : Int))] ∧ 0 < d ∧ Nat.gcd d r = Nat.gcd top bot ∧ small (d : Int) ∧ small (r : Int) ∧ m = r ∧ H' = H,
    ⟨top, bot, top, rfl, hb, Nat.gcd_comm _ _, s2, s1, rfl, rfl⟩, ?_⟩
  rintro m σ H' ⟨d, r, rfl, d0, hg, sd, sr, rfl, rfl⟩
  refine ⟨_, rfl, _, _, rfl, rfl, _, rfl, ite2 (fun e => ?_) (fun e => ?_)⟩
  · have e1 := of_decide_eq_true e
    refine ⟨fun σ2 H2 => ∃ d2 r2 : Nat, σ2 = [some (.int (top : Int)), some (.int (bot : Int)), some (.int (d2 : Int)), some (.int (r2 : Int))] ∧ 0 < d2 ∧ Nat.gcd d2 r2 = Nat.gcd top bot ∧ small (d2 : Int) ∧ small (r2 : Int) ∧ r2 < m ∧ H2 = H', ?_, ?_⟩
    · rintro σ2 H2 ⟨d2, r2, h1, h2, h3, h4, h5, h6, h7⟩
      exact ⟨r2, h6, d2, r2, h1, h2, h3, h4, h5, rfl, h7⟩
    · have m0 : 0 < m := by omega
      have hlt := Nat.mod_lt d m0
      refine ⟨_, rfl, _, rfl, _, rfl, _, _, rfl, rfl, e1, _, _, rfl, ?_⟩
      refine ⟨m, d % m, ?_, m0, ?_, sr, ?_, hlt, rfl⟩
      · rw [Int.natCast_emod]
        rfl
      · rw [← hg, Nat.gcd_comm d m, Nat.gcd_rec m d, Nat.gcd_comm]
      · exact small_le (by omega) (by omega) sr
  · have hr0 : m = 0 := by
      have : ¬ (0 : Int) < (m : Int) := fun z => e (decide_eq_true z)
      omega
    subst hr0
    rw [Nat.gcd_zero_right] at hg
    have dd : (0 : Int) < (d : Int) := by omega
    refine ⟨_, rfl, _, rfl, _, _, rfl, rfl, small_div dd sd, _, rfl, _, rfl, _, _, rfl, rfl, small_div dd sd, (by show 2 ≤ sizeLine; decide), fun p np => ?_⟩
    refine q p _ np (same_upd np) ?_
    rw [upd_same, ← hg, Int.natCast_ediv, Int.natCast_ediv]
end

/-! ### the level is found -/
theorem fm_zip_self {α β : Type} (F : α → α → Option β) : ∀ l : List α, ((l.zip l).filterMap fun p => F p.1 p.2) = l.filterMap fun x => F x x
  | [] => rfl
  | x :: r => by
    rw [List.zip_cons_cons, List.filterMap_cons, List.filterMap_cons, fm_zip_self F r]
theorem fm_zero : ∀ ps : List Pr, (∀ x ∈ ps, 0 ≤ x.2) → (ps.filterMap fun x => if x.2 = 0 then some (lim x) else none) = (ps.filter fun x => !p0 x).map lim
  | [], _ => rfl
  | x :: r, h => by
    have h1 := h x List.mem_cons_self
    rw [List.filterMap_cons, fm_zero r fun y hy => h y (List.mem_cons_of_mem _ hy), List.filter_cons]
    by_cases e : x.2 = 0
    · rw [if_pos e, show p0 x = false from decide_eq_false (by omega)]
      rfl
    · rw [if_neg e, show p0 x = true from decide_eq_true (by omega)]
      rfl
theorem sumW_p0 : ∀ ps : List Pr, (∀ x ∈ ps, 0 ≤ x.2) → sumW (ps.filter p0) = (ps.map fun x => x.2).sum
  | [], _ => rfl
  | x :: r, h => by
    have h1 := h x List.mem_cons_self
    have ih := sumW_p0 r fun y hy => h y (List.mem_cons_of_mem _ hy)
    rw [List.filter_cons, List.map_cons, List.sum_cons, ← ih]
    by_cases e : x.2 = 0
    · rw [show p0 x = false from decide_eq_false (by omega), e, if_neg (by decide)]
      omega
    · rw [show p0 x = true from decide_eq_true (by omega), if_pos rfl]
      rfl
theorem ff {α : Type} (p q : α → Bool) : ∀ l : List α, (l.filter p).filter q = l.filter fun x => p x && q x
  | [] => rfl
  | x :: r => by
    have ih := ff p q r
    cases hp : p x <;> cases hq : q x <;> simp [List.filter_cons, hp, hq, ih]
theorem filter_split_len {α : Type} (p b : α → Bool) : ∀ l : List α, (l.filter p).length = (l.filter fun x => p x && b x).length + (l.filter fun x => p x && !b x).length
  | [] => rfl
  | x :: r => by
    have ih := filter_split_len p b r
    cases hp : p x <;> cases hb : b x <;> simp [List.filter_cons, hp, hb] <;> omega
theorem zip_fst {β : Type} (q : Pr → Bool) (f : Pr → β) : ∀ (ps : List Pr) (k : Nat), ((ps.zipIdx k).filter fun x => q x.1).map (fun x => f x.1) = (ps.filter q).map f
  | [], _ => rfl
  | x :: r, k => by
    have ih := zip_fst q f r (k + 1)
    rw [List.zipIdx_cons]
    cases h : q x <;> simp [List.filter_cons, h, ih]
theorem zidx {ps : List Pr} {x : Pr × Nat} (h : x ∈ ps.zipIdx) : ps[x.2]? = some x.1 := by
  obtain ⟨a, i⟩ := x
  exact List.mem_zipIdx_iff_getElem?.mp h
theorem inV_idx {ps : List Pr} {l : List (Pr × Nat)} {x : Pr × Nat} (hl : ∀ y ∈ l, y ∈ ps.zipIdx) (hx : x ∈ ps.zipIdx) : inV (eI x) (l.map eI) = decide (x ∈ l) := by
  unfold inV
  by_cases h : x ∈ l
  · rw [decide_eq_true h, List.any_eq_true]
    refine ⟨eI x, List.mem_map.mpr ⟨x, h, rfl⟩, ?_⟩
    show ((x.2 : Int) == (x.2 : Int)) = true
    simp
  · rw [decide_eq_false h, List.any_eq_false]
    intro v hv e
    obtain ⟨y, hy, rfl⟩ := List.mem_map.mp hv
    have e2 : ((y.2 : Int) == (x.2 : Int)) = true := e
    have e3 : y.2 = x.2 := by
      have e5 := eq_of_beq e2
      omega
    have h1 := zidx (hl y hy)
    have h2 := zidx hx
    rw [e3, h2] at h1
    have e4 : x.1 = y.1 := Option.some.inj h1
    have : x = y := Prod.ext e4 e3.symm
    rw [this] at h
    exact h hy
theorem flat_eI (l : List (Pr × Nat)) : (l.map eI).all flatV = true := by
  rw [List.all_eq_true]
  intro v hv
  obtain ⟨y, _, rfl⟩ := List.mem_map.mp hv
  rfl
theorem ov_some {x : Pr} (h : x.1 ≠ none) : ov x.1 = .int (lim x) := by
  obtain ⟨c, w⟩ := x
  cases c with
  | none => exact absurd rfl h
  | some c => rfl
def WU (H : Hp) (total : Int) (la wa fa : Addr) (cap : Bool) (ps : List Pr) (m : Nat) (σ : L2.St) (H' : Hp) : Prop :=
  ∃ (p : Pr → Bool) (room W : Int) (fl : Addr) (v5 v6 v8 v10 : Option V), σ = [some (.int total), some (.ref la), some (.ref wa), some (.ref fa), some (.ref fl), v5, v6, some (.int room), v8, some (.int W), v10] ∧ Lev cap total ps p room W ∧
    H' fl = some (.lst ((ps.zipIdx.filter fun x => p x.1).map eI)) ∧ Same H H' ∧ m = (ps.zipIdx.filter fun x => p x.1).length
theorem Lev.small {cap : Bool} {total : Int} {ps : List Pr} {p : Pr → Bool} {room W : Int} (ft : Fits total ps) (h : Lev cap total ps p room W) : room ≤ total ∧ W ≤ sumW ps := by
  have h1 := sum_nonneg lim (ps.filter fun x => !p x) fun x hx => ft.good.l0 x (List.mem_filter.mp hx).1
  have h2 := sum_nonneg (fun x : Pr => x.2) (ps.filter fun x => !p x) fun x hx => ft.good.w0 x (List.mem_filter.mp hx).1
  have h3 := sum_split1 (fun x : Pr => x.2) p ps
  have e1 := h.eR
  have e2 := h.eW
  unfold sumL at e1
  unfold sumW at e2 ⊢
  omega
theorem Fits.small_w {total : Int} {ps : List Pr} (ft : Fits total ps) : ∀ x ∈ ps, small x.2 := fun x hx => by
  obtain ⟨s, t, e⟩ := List.append_of_mem hx
  have h1 := sum_nonneg (fun x : Pr => x.2) s fun y hy => ft.good.w0 y (by rw [e]; exact List.mem_append_left _ hy)
  have h2 := sum_nonneg (fun x : Pr => x.2) t fun y hy => ft.good.w0 y (by rw [e]; exact List.mem_append_right _ (List.mem_cons_of_mem _ hy))
  refine small_le (ft.good.w0 x hx) ?_ ft.w1
  unfold sumW
  rw [e, List.map_append, List.sum_append, List.map_cons, List.sum_cons]
  omega
theorem zlen (ps : List Pr) (q : Pr × Nat → Bool) : (ps.zipIdx.filter q).length ≤ ps.length := by
  refine Nat.le_trans (List.length_filter_le _ _) ?_
  rw [List.length_zipIdx]
  exact Nat.le_refl _
section
variable {P : Program} {w : World} {K : PySem.W.Frag} {mg : Str → Option Value} {base : Heap}
theorem binds_ok (T : Txt K mg) {cap : Bool} {fa : Addr} (hf : mg (nmB cap) = some (.ref fa)) (hb : hasB cap) : ∃ fd pn, FnOk P w K mg base CX0 1 fa fd pn (spB cap) ∧ PySem.W.keepIn K (.ref fa) = true ∧ Binds K fd pn [] := by
  cases cap with
  | true =>
    obtain ⟨f2, fd, F, G, m, b⟩ := ok_cap_binds (P := P) (w := w) (base := base) T
    have e := m.symm.trans hf
    cases e
    exact ⟨fd, _, G, F.kp, b⟩
  | false =>
    obtain ⟨f2, fd, F, G, m, b⟩ := ok_floor_binds (P := P) (w := w) (base := base) T
    have e := m.symm.trans hf
    cases e
    exact ⟨fd, _, G, F.kp, b⟩
theorem ok_unbound (T : Txt K mg) : Ok P w K mg base CX0 "unbound" s_p_unbound 2 ["total", "limits", "weights", "binds"] (spUnb mg) := by
  refine T.h_p_unbound.ok sc_p_unbound (fun vs H Q E h => ?_) (fun f cdv A outer s H vs Q E hr h => ?_)
  · obtain ⟨_, _, _, _, _, _, rfl, _⟩ := h; rfl
  obtain ⟨total, la, wa, fa, cap, ps, rfl, hf, hla, hwa, ft, lv, q⟩ := h
  obtain ⟨fd, pn, FB_binds, kB_binds, bB_binds⟩ := binds_ok (P := P) (w := w) (base := base) T hf.1 hf.2
  have n1 := ft.n1
  refine ⟨_, (pss_cons (ps_setLc (i := 4) (own := [("at", 5), ("weight", 6)]) (g := gTup K 2 (gCons (gName 5) (gCons (gName 6) gNil))) (by rfl) sc_p_unbound.nd rfl rfl (sw_true rfl rfl rfl (by decide +kernel)) (pi_enum (by rfl) T.m_enumerate (pa_cons (pv 2) pa_nil)) (blkOk_by (own := [("at", 5), ("weight", 6)]) (N := n_p_unbound) (sc := defScope s_p_unbound) (by decide +kernel)) (fun _ _ _ _ _ => (pg_tup rfl (pgs_cons (pg_name (i := 5) sc_p_unbound.nd rfl (by first | exact Or.inl rfl | exact Or.inr rfl)) (pgs_cons (pg_name (i := 6) sc_p_unbound.nd rfl (by first | exact Or.inl rfl | exact Or.inr rfl)) pgs_nil)))) (fun _ _ _ _ _ => (pts_one (pt_cmpR op_gt (pv 6) pe_int (nomark _)))) (fun _ _ _ _ _ => (pv 5)))
      (pss_cons (ps_set (i := 7) sc_p_unbound.nd rfl (by first | exact Or.inl rfl | exact Or.inr rfl) (pe_op op_sub (pv 0) (pe_callB (cr_sum rfl) (by rfl) T.m_sum (by decide +kernel) (pa_cons (pe_lc (own := [("limit", 8), ("weight", 6)]) (g := gTup K 2 (gCons (gName 8) (gCons (gName 6) gNil))) (by rfl) sc_p_unbound.nd (pi_zip (by rfl) T.m_zip (pa_cons (pv 1) (pa_cons (pv 2) pa_nil))) (blkOk_by (own := [("limit", 8), ("weight", 6)]) (N := n_p_unbound) (sc := defScope s_p_unbound) (by decide +kernel)) (fun _ _ _ _ _ => (pg_tup rfl (pgs_cons (pg_name (i := 8) sc_p_unbound.nd rfl (by first | exact Or.inl rfl | exact Or.inr rfl)) (pgs_cons (pg_name (i := 6) sc_p_unbound.nd rfl (by first | exact Or.inl rfl | exact Or.inr rfl)) pgs_nil)))) (fun _ _ _ _ _ => (pts_one (pt_cmpR op_eq (pv 6) pe_int (nomark _)))) (fun _ _ _ _ _ => (pv 8))) pa_nil))))
      (pss_cons (ps_set (i := 9) sc_p_unbound.nd rfl (by first | exact Or.inl rfl | exact Or.inr rfl) (pe_callB (cr_sum rfl) (by rfl) T.m_sum (by decide +kernel) (pa_cons (pv 2) pa_nil)))
      (pss_one (ps_while PassesOwn.never (pt_val pe_bl)
      (pss_cons (ps_set (i := 10) sc_p_unbound.nd rfl (by first | exact Or.inl rfl | exact Or.inr rfl) (pe_lc (own := [("at", 5)]) (tt := (tB (tCallL _ _ _ _ _ (tCons (tOp (rIxL K) (tVar 1) (tVar 5)) (tCons (tOp (rIxL K) (tVar 2) (tVar 5)) (tCons (tVar 7) (tCons (tVar 9) tNil))))))) (by rfl) sc_p_unbound.nd (pi_list (pv 4)) (blkOk_by (own := [("at", 5)]) (N := n_p_unbound) (sc := defScope s_p_unbound) (by decide +kernel)) (fun _ _ _ _ _ => (pg_name (i := 5) sc_p_unbound.nd rfl (by first | exact Or.inl rfl | exact Or.inr rfl))) (fun _ _ _ _ _ => (pts_one (pt_val (pe_callL FB_binds (hr.mono (by decide)) (i := 3) rfl (by first | exact Or.inl rfl | exact Or.inr (Or.inl rfl) | exact Or.inr (Or.inr rfl)) kB_binds bB_binds .nil pass0 (pa_cons (pe_ix ix_list (pv 1) (pv 5) (fun _ _ => rfl)) (pa_cons (pe_ix ix_list (pv 2) (pv 5) (fun _ _ => rfl)) (pa_cons (pv 7) (pa_cons (pv 9) pa_nil)))))))) (fun _ _ _ _ _ => (pv 5))))
      (pss_cons (ps_if (pt_cmpR op_eq (pe_callB call_len (by rfl) T.m_len (by decide +kernel) (pa_cons (pv 10) pa_nil)) pe_int (nomark _))
      (pss_one (ps_ret (pe_tup (pa_cons (pv 4) (pa_cons (pv 7) (pa_cons (pv 9) pa_nil))))))
      pss_nil)
      (pss_cons (ps_aug (i := 7) sc_p_unbound.nd rfl (by first | exact Or.inl rfl | exact Or.inr rfl) (pe_callB (cr_sum rfl) (by rfl) T.m_sum (by decide +kernel) (pa_cons (pe_lc (own := [("at", 5)]) (te := (tOp (rIxL K) (tVar 1) (tVar 5))) (by rfl) sc_p_unbound.nd (pi_list (pv 10)) (blkOk_by (own := [("at", 5)]) (N := n_p_unbound) (sc := defScope s_p_unbound) (by decide +kernel)) (fun _ _ _ _ _ => (pg_name (i := 5) sc_p_unbound.nd rfl (by first | exact Or.inl rfl | exact Or.inr rfl))) (fun _ _ _ _ _ => pts_nil) (fun _ _ _ _ _ => (pe_ix ix_list (pv 1) (pv 5) (fun _ _ => rfl)))) pa_nil)) ip_sub)
      (pss_cons (ps_aug (i := 9) sc_p_unbound.nd rfl (by first | exact Or.inl rfl | exact Or.inr rfl) (pe_callB (cr_sum rfl) (by rfl) T.m_sum (by decide +kernel) (pa_cons (pe_lc (own := [("at", 5)]) (te := (tOp (rIxL K) (tVar 2) (tVar 5))) (by rfl) sc_p_unbound.nd (pi_list (pv 10)) (blkOk_by (own := [("at", 5)]) (N := n_p_unbound) (sc := defScope s_p_unbound) (by decide +kernel)) (fun _ _ _ _ _ => (pg_name (i := 5) sc_p_unbound.nd rfl (by first | exact Or.inl rfl | exact Or.inr rfl))) (fun _ _ _ _ _ => pts_nil) (fun _ _ _ _ _ => (pe_ix ix_list (pv 2) (pv 5) (fun _ _ => rfl)))) pa_nil)) ip_sub)
      (pss_one (ps_setLc (i := 4) (own := [("at", 5)]) (tt := (tTest (tOp (rIn K true) (tVar 5) (tVar 10)))) (by rfl) sc_p_unbound.nd rfl rfl (sw_true rfl rfl rfl (by decide +kernel)) (pi_list (pv 4)) (blkOk_by (own := [("at", 5)]) (N := n_p_unbound) (sc := defScope s_p_unbound) (by decide +kernel)) (fun _ _ _ _ _ => (pg_name (i := 5) sc_p_unbound.nd rfl (by first | exact Or.inl rfl | exact Or.inr rfl))) (fun _ _ _ _ _ => (pts_one (pt_cmpR op_notIn_seq (pv 5) (pv 10) (by rfl)))) (fun _ _ _ _ _ => (pv 5))))))))))))), ?_⟩
  refine ⟨_, rfl, wa, _, rfl, .of hwa, fun D nD => lcF_enum (K := K) (as := ps) (fun x => V.int x.2) (fun y => if p0 y.1 = true then some y else none) eI (.of hwa) nD (by omega) ?_ ?_⟩
  · intro i x H' A' B' hx sm ka kb
    refine ⟨rfl, _, rfl, _, _, rfl, rfl, _, rfl, ite2 (fun e => ?_) (fun e => ?_)⟩
    · exact ⟨_, rfl, ka (x, i) _ (if_pos e) (Same.refl _)⟩
    · exact kb _ (if_neg e) (Same.refl _)
  intro H1 s1 e1
  rw [fm_filter (fun y : Pr × Nat => p0 y.1)] at e1
  refine ⟨_, rfl, _, rfl, _, rfl, la, wa, _, _, rfl, .of (s1 _ _ hla), .of (s1 _ _ hwa), fun D2 n2 => lcF_zip (K := K) (as := ps) (bs := ps) (fun x => ov x.1) (fun x => V.int x.2) (fun x y => if y.2 = 0 then some (lim x) else none) V.int (.of (s1 _ _ hla)) (.of (s1 _ _ hwa)) n2 (by omega) ?_ ?_⟩
  · intro i x y H' A' B' hx hy sm ka kb
    rw [hx] at hy
    cases hy
    refine ⟨rfl, _, rfl, rfl, _, rfl, ite2 (fun e => ?_) (fun e => ?_)⟩
    · have e0 : x.2 = 0 := by
        have := of_decide_eq_true e
        exact V.int.inj this
      refine ⟨_, rfl, ?_⟩
      rw [ov_some (lv.known x (List.mem_of_getElem? hx) (decide_eq_false (by omega)))]
      exact ka _ _ (if_pos e0) (Same.refl _)
    · refine kb _ (if_neg fun z => e ?_) (Same.refl _)
      rw [z]
      exact decide_eq_true rfl
  intro H2 s2 e2
  rw [fm_zip_self (fun (x y : Pr) => if y.2 = 0 then some (lim x) else none) ps, fm_zero ps ft.good.w0] at e2
  refine ⟨D2, _, rfl, .of e2, _, _, rfl, rfl, ?_⟩
  have hw2 : H2 wa = some (.lst ((ps.map fun x => x.2).map V.int)) := by
    rw [List.map_map]
    exact s2 _ _ (s1 _ _ hwa)
  refine ⟨_, rfl, wa, _, rfl, .of hw2, ?_⟩
  rw [← sumW_p0 ps ft.good.w0]
  refine ⟨WU H total la wa fa cap ps, ⟨_, p0, _, _, D, none, none, none, none, rfl, lv, s2 _ _ e1, s1.trans s2, rfl⟩, ?_⟩
  rintro m σ H' ⟨p, room, W, fl, v5, v6, v8, v10, rfl, L, hfl, sm, rfl⟩
  have hla' := sm _ _ hla
  have hwa' := sm _ _ hwa
  obtain ⟨b1, b2⟩ := L.small ft
  have sr : small room := small_le L.r0 b1 ft.t1
  have sw : small W := small_le (Int.le_of_lt L.w0) b2 ft.w1
  have kn : ∀ x ∈ ps, cap = false → x.1 ≠ none := fun x hx e => by
    have := L.over
    rw [if_neg (by rw [e]; decide)] at this
    exact this.1 x hx
  refine ⟨true, rfl, iteT ⟨fun σ' H'' => ∃ m', m' < (ps.zipIdx.filter fun x => p x.1).length ∧ WU H total la wa fa cap ps m' σ' H'', fun _ _ h => h, ?_⟩⟩
  refine ⟨_, rfl, fl, rfl, ⟨_, .of hfl⟩, fun B nB => lcF_list (K := K) (as := ps.zipIdx.filter fun x => p x.1) eI (fun y => if bnd cap y.1 room W = true then some y else none) eI (.of hfl) nB (Nat.le_trans (zlen _ _) (by omega)) ?_ ?_⟩
  · intro i x H3 A' B' hx s3 ka kb
    have hxm := (List.mem_filter.mp (List.mem_of_getElem? hx)).1
    have hp := zidx hxm
    have hpm := List.mem_of_getElem? hp
    refine ⟨rfl, rfl, _, rfl, _, rfl, la, _, _, _, rfl, rfl, .of (s3 _ _ hla'), atI_nat (j := x.2) (by rw [List.getElem?_map, hp]; rfl), _, rfl, _, rfl, wa, _, _, _, rfl, rfl, .of (s3 _ _ hwa'), atI_nat (j := x.2) (by rw [List.getElem?_map, hp]; rfl), _, rfl, _, rfl,
      x.1, room, W, rfl, kn x.1 hpm, ft.l1 x.1 hpm, ft.small_w x.1 hpm, sr, sw, _, rfl, ite2 (fun e => ?_) (fun e => ?_)⟩
    · exact ⟨_, rfl, ka x _ (if_pos e) (Same.refl _)⟩
    · exact kb _ (if_neg e) (Same.refl _)
  intro H3 s3 e3
  rw [fm_filter (fun y : Pr × Nat => bnd cap y.1 room W), ff] at e3
  have hla3 := s3 _ _ hla'
  have hwa3 := s3 _ _ hwa'
  have hfl3 := s3 _ _ hfl
  refine ⟨_, rfl, _, _, rfl, .inl ⟨_, .of e3, rfl⟩, rfl, _, rfl, ite2 (fun e => ?_) (fun e => ?_)⟩
  · have e0 : (ps.zipIdx.filter fun x => p x.1 && bnd cap x.1 room W) = [] := by
      have h1 := V.int.inj (of_decide_eq_true e)
      rw [List.length_map] at h1
      exact List.eq_nil_of_length_eq_zero (by omega)
    have hn : ∀ x ∈ ps, p x = true → bnd cap x room W = false := fun x hx px => by
      cases eb : bnd cap x room W with
      | false => rfl
      | true =>
        obtain ⟨i, hi⟩ := List.getElem?_of_mem hx
        have : (x, i) ∈ ps.zipIdx.filter fun x => p x.1 && bnd cap x.1 room W := List.mem_filter.mpr ⟨List.mem_zipIdx_iff_getElem?.mpr hi, by simp [px, eb]⟩
        rw [e0] at this
        cases this
    have es : (ps.zipIdx.filter fun x => p x.1) = frI cap room W ps := List.filter_congr fun x hx => L.same hn x.1 (List.mem_of_getElem? (zidx hx))
    refine ⟨_, rfl, _, rfl, _, rfl, (by show 3 ≤ sizeLine; decide), fun t nt => ?_⟩
    refine q t fl room W _ ?_ (L.fix hn) b1 b2 upd_same ?_ ((sm.trans s3).trans (same_upd nt))
    · cases eh : H t with
      | none => rfl
      | some o =>
        rw [s3 _ _ (sm _ _ eh)] at nt
        cases nt
    · rw [← es]
      exact same_upd nt _ _ hfl3
  have kb : ∀ y ∈ (ps.zipIdx.filter fun x => p x.1 && bnd cap x.1 room W), ps[y.2]? = some y.1 ∧ y.1.1 ≠ none := fun y hy => by
    obtain ⟨h1, h2⟩ := List.mem_filter.mp hy
    have hp := zidx h1
    refine ⟨hp, ?_⟩
    cases ec : cap with
    | false => exact kn _ (List.mem_of_getElem? hp) ec
    | true =>
      rw [ec] at h2
      simp at h2
      exact (bnd_cap h2.2).1
  have lb : (ps.zipIdx.filter fun x => p x.1 && bnd cap x.1 room W).length ≤ 40000 := Nat.le_trans (zlen _ _) (by omega)
  refine ⟨_, rfl, _, rfl, B, rfl, ⟨_, .of e3⟩, fun D4 n4 => lcF_list (K := K) (as := ps.zipIdx.filter fun x => p x.1 && bnd cap x.1 room W) eI (fun y => some (lim y.1)) V.int (.of e3) n4 lb ?_ ?_⟩
  · intro i x H4 A' B' hx s4 ka kb'
    obtain ⟨hp, hk⟩ := kb x (List.mem_of_getElem? hx)
    refine ⟨rfl, yes_if ⟨_, rfl, _, rfl, la, _, _, _, rfl, rfl, .of (s4 _ _ hla3), atI_nat (j := x.2) (by rw [List.getElem?_map, hp]; rfl), ?_⟩⟩
    show A' (ov x.1.1) H4
    rw [ov_some hk]
    exact ka _ _ rfl (Same.refl _)
  intro H4 s4 e4
  rw [fm_some] at e4
  refine ⟨D4, _, rfl, .of e4, _, _, rfl, rfl, ?_⟩
  refine ⟨_, rfl, _, rfl, B, rfl, ⟨_, .of (s4 _ _ e3)⟩, fun D5 n5 => lcF_list (K := K) (as := ps.zipIdx.filter fun x => p x.1 && bnd cap x.1 room W) eI (fun y => some y.1.2) V.int (.of (s4 _ _ e3)) n5 lb ?_ ?_⟩
  · intro i x H5 A' B' hx s5 ka kb'
    obtain ⟨hp, hk⟩ := kb x (List.mem_of_getElem? hx)
    exact ⟨rfl, yes_if ⟨_, rfl, _, rfl, wa, _, _, _, rfl, rfl, .of (s5 _ _ (s4 _ _ hwa3)), atI_nat (j := x.2) (by rw [List.getElem?_map, hp]; rfl), ka _ _ rfl (Same.refl _)⟩⟩
  intro H5 s5 e5
  rw [fm_some] at e5
  refine ⟨D5, _, rfl, .of e5, _, _, rfl, rfl, ?_⟩
  have hfl5 := s5 _ _ (s4 _ _ hfl3)
  have eB5 := s5 _ _ (s4 _ _ e3)
  refine ⟨_, rfl, fl, rfl, ⟨_, .of hfl5⟩, fun D6 n6 => lcF_list (K := K) (as := ps.zipIdx.filter fun x => p x.1) eI (fun y => if (!bnd cap y.1 room W) = true then some y else none) eI (.of hfl5) n6 (Nat.le_trans (zlen _ _) (by omega)) ?_ ?_⟩
  · intro i x H6 A' B' hx s6 ka kb'
    obtain ⟨hxm, hpx⟩ := List.mem_filter.mp (List.mem_of_getElem? hx)
    have hin : inV (eI x) ((ps.zipIdx.filter fun x => p x.1 && bnd cap x.1 room W).map eI) = bnd cap x.1 room W := by
      rw [inV_idx (ps := ps) (fun y hy => (List.mem_filter.mp hy).1) hxm]
      cases eb : bnd cap x.1 room W with
      | true => exact decide_eq_true (List.mem_filter.mpr ⟨hxm, by simp [hpx, eb]⟩)
      | false =>
        refine decide_eq_false fun z => ?_
        have z2 := (List.mem_filter.mp z).2
        simp [eb] at z2
    refine ⟨rfl, _, rfl, _, rfl, B, _, rfl, .inl (.of (s6 _ _ eB5)), rfl, flat_eI _, _, rfl, ?_⟩
    show if (!inV (eI x) ((ps.zipIdx.filter fun x => p x.1 && bnd cap x.1 room W).map eI)) = true then _ else _
    rw [hin]
    refine ite2 (fun e => ?_) (fun e => ?_)
    · exact ⟨_, rfl, ka x _ (if_pos e) (Same.refl _)⟩
    · exact kb' _ (if_neg e) (Same.refl _)
  intro H6 s6 e6
  rw [fm_filter (fun y : Pr × Nat => !bnd cap y.1 room W), ff] at e6
  have LS := L.step ft.good
  have z1 : ((ps.zipIdx.filter fun x => p x.1 && bnd cap x.1 room W).map fun y => lim y.1).sum = sumL (ps.filter fun x => p x && bnd cap x room W) := by
    rw [zip_fst (fun x => p x && bnd cap x room W) lim]
    rfl
  have z2 : ((ps.zipIdx.filter fun x => p x.1 && bnd cap x.1 room W).map fun y => y.1.2).sum = sumW (ps.filter fun x => p x && bnd cap x room W) := by
    rw [zip_fst (fun x => p x && bnd cap x room W) (fun x => x.2)]
    rfl
  have hne : 0 < (ps.zipIdx.filter fun x => p x.1 && bnd cap x.1 room W).length := by
    rcases Nat.eq_zero_or_pos (ps.zipIdx.filter fun x => p x.1 && bnd cap x.1 room W).length with h0 | h0
    · exfalso
      apply e
      rw [List.length_map, h0]
      exact decide_eq_true rfl
    · exact h0
  have hlen := filter_split_len (fun x : Pr × Nat => p x.1) (fun x => bnd cap x.1 room W) ps.zipIdx
  refine ⟨_, ?_, fun x => p x && !bnd cap x room W, _, _, D6, _, _, _, _, rfl, ?_, e6, (((sm.trans s3).trans s4).trans s5).trans s6, rfl⟩
  · show (ps.zipIdx.filter fun x => p x.1 && !bnd cap x.1 room W).length < _
    omega
  · show Lev cap total ps _ (room - _) (W - _)
    rw [z1, z2]
    exact LS
end

/-! ### dealt, levelled -/
theorem sback {H H' : Hp} {p : Addr} (s : Same H H') (n : H' p = none) : H p = none := by
  cases e : H p with
  | none => rfl
  | some o =>
    rw [s _ _ e] at n
    cases n
theorem ixN_at {n j : Nat} (hj : j < n) : ixN n (j : Int) = some j := by
  unfold ixN
  rw [if_pos (by omega), if_pos (by omega)]
  simp
def lims1 (x : Pr) : Pr := if 0 < x.2 then x else (some 0, x.2)
def lims (ps : List Pr) : List Pr := ps.map lims1
def allCapped (total : Int) (ps : List Pr) : Prop := (∀ x ∈ lims ps, x.1 ≠ none) ∧ sumL (lims ps) ≤ total
def Dealt (total : Int) (ps : List Pr) (lv : Option (Int × Int)) (parts : List Int) : Prop :=
  (allCapped total ps ∧ lv = none ∧ parts = (lims ps).map lim) ∨ (¬ allCapped total ps ∧ ∃ room W, Fix true total (lims ps) room W ∧ lv = some (low room W) ∧ parts = runP room W (free true room W) 0 (lims ps))
def Levelled (total : Int) (ps : List Pr) (lv : Option (Int × Int)) (parts : List Int) : Prop :=
  ((sumW ps = 0 ∨ total ≤ sumL ps) ∧ lv = none ∧ parts = ps.map lim) ∨ (¬ (sumW ps = 0 ∨ total ≤ sumL ps) ∧ ∃ room W, Fix false total ps room W ∧ lv = some (low room W) ∧ parts = runP room W (free false room W) 0 ps)
def spDealt : Sp := fun vs H Q _ => ∃ (total : Int) (ca wa : Addr) (ps : List Pr), vs = [.int total, .ref ca, .ref wa] ∧ H ca = some (.lst (ps.map fun x => ov x.1)) ∧ H wa = some (.lst (ps.map fun x => .int x.2)) ∧ Fits total ps ∧
  ∀ t p lvv lv parts H', H t = none → H p = none → Dealt total ps lv parts → H' t = some (.tup [lvv, .ref p]) → LvAt H' lvv lv → H' p = some (.lst (parts.map V.int)) → Same H H' → Q (.ref t) H'
def spLevelled : Sp := fun vs H Q _ => ∃ (total : Int) (ca wa : Addr) (ps : List Pr), vs = [.int total, .ref ca, .ref wa] ∧ H ca = some (.lst (ps.map fun x => ov x.1)) ∧ H wa = some (.lst (ps.map fun x => .int x.2)) ∧ (∀ x ∈ ps, x.1 ≠ none) ∧ Fits total ps ∧
  ∀ t p lvv lv parts H', H t = none → H p = none → Levelled total ps lv parts → H' t = some (.tup [lvv, .ref p]) → LvAt H' lvv lv → H' p = some (.lst (parts.map V.int)) → Same H H' → Q (.ref t) H'
theorem lims_w (ps : List Pr) : (lims ps).map (fun x => V.int x.2) = ps.map fun x => V.int x.2 := by
  unfold lims
  rw [List.map_map]
  refine List.map_congr_left fun x _ => ?_
  show V.int (lims1 x).2 = V.int x.2
  unfold lims1
  split <;> rfl
theorem lims_sumW (ps : List Pr) : sumW (lims ps) = sumW ps := by
  unfold sumW lims
  rw [List.map_map]
  congr 1
  refine List.map_congr_left fun x _ => ?_
  show (lims1 x).2 = x.2
  unfold lims1
  split <;> rfl
theorem fits_lims {total : Int} {ps : List Pr} (h : Fits total ps) : Fits total (lims ps) := by
  have key : ∀ y ∈ lims ps, ∃ x ∈ ps, y = lims1 x := fun y hy => by
    obtain ⟨x, hx, e⟩ := List.mem_map.mp hy
    exact ⟨x, hx, e.symm⟩
  refine ⟨⟨fun y hy => ?_, fun y hy => ?_⟩, h.t0, h.t1, fun y hy => ?_, by rw [lims_sumW]; exact h.w1, by unfold lims; rw [List.length_map]; exact h.n1⟩
  · obtain ⟨x, hx, rfl⟩ := key y hy
    have := h.good.w0 x hx
    unfold lims1
    split <;> exact this
  · obtain ⟨x, hx, rfl⟩ := key y hy
    have := h.good.l0 x hx
    unfold lims1
    split
    · exact this
    · exact Int.le_refl 0
  · obtain ⟨x, hx, rfl⟩ := key y hy
    have := h.l1 x hx
    unfold lims1
    split
    · exact this
    · exact Nat.two_pow_pos 400
theorem lims_not {ps : List Pr} {x : Pr} (hx : x ∈ lims ps) (h : p0 x = false) : x.1 = some 0 := by
  obtain ⟨y, _, rfl⟩ := List.mem_map.mp hx
  unfold lims1 at h ⊢
  split
  · rename_i h1
    rw [if_pos h1] at h
    rw [show p0 y = true from decide_eq_true h1] at h
    cases h
  · rfl
theorem sum_zero {α : Type} (f : α → Int) : ∀ l : List α, (∀ x ∈ l, f x = 0) → (l.map f).sum = 0
  | [], _ => rfl
  | x :: r, h => by
    rw [List.map_cons, List.sum_cons, h x List.mem_cons_self, sum_zero f r fun y hy => h y (List.mem_cons_of_mem _ hy)]
    rfl
theorem lev0_cap {total : Int} {ps : List Pr} (ft : Fits total ps) (h : ¬ allCapped total ps) : Lev0 true total (lims ps) := by
  have z : sumL ((lims ps).filter fun x => !p0 x) = 0 := sum_zero lim _ fun x hx => by
    obtain ⟨h1, h2⟩ := List.mem_filter.mp hx
    unfold lim
    rw [lims_not h1 (by simpa using h2)]
    rfl
  have s1 := sum_split1 lim p0 (lims ps)
  have ov : (∃ x ∈ lims ps, p0 x = true ∧ x.1 = none) ∨ total < sumL ((lims ps).filter p0) := by
    by_cases hn : ∃ x ∈ lims ps, x.1 = none
    · obtain ⟨x, hx, e⟩ := hn
      left
      refine ⟨x, hx, ?_, e⟩
      cases hp : p0 x with
      | true => rfl
      | false => rw [lims_not hx hp] at e; cases e
    · right
      have hk : ∀ x ∈ lims ps, x.1 ≠ none := fun x hx e => hn ⟨x, hx, e⟩
      have : ¬ sumL (lims ps) ≤ total := fun z => h ⟨hk, z⟩
      unfold sumL at this z ⊢
      omega
  unfold Lev0
  rw [z]
  refine ⟨fun x _ hp => of_decide_eq_true hp, rfl, by rw [z], filter_pos (fun x _ hp => of_decide_eq_true hp) ?_, by have := ft.t0; omega, fun x _ hx hp => ?_, fun x hx hp => by rw [lims_not hx hp]; simp, ?_⟩
  · rcases ov with ⟨x, hx, hp, _⟩ | h1
    · exact ⟨x, hx, hp⟩
    · by_cases hn : ∃ x ∈ lims ps, p0 x = true
      · exact hn
      · rw [none_free hn] at h1
        have : sumL [] = 0 := rfl
        have := ft.t0
        omega
  · rw [show p0 x = true from decide_eq_true hx] at hp
    cases hp
  · rw [if_pos rfl]
    rcases ov with h1 | h1
    · exact .inl h1
    · exact .inr (by omega)
theorem lev0_flo {total : Int} {ps : List Pr} (ft : Fits total ps) (hk : ∀ x ∈ ps, x.1 ≠ none) (h : ¬ (sumW ps = 0 ∨ total ≤ sumL ps)) : Lev0 false total ps := by
  have s1 := sum_split1 lim p0 ps
  have g1 := sum_nonneg lim (ps.filter p0) fun x hx => ft.good.l0 x (List.mem_filter.mp hx).1
  have g2 := sum_nonneg (fun x : Pr => x.2) ps fun x hx => ft.good.w0 x hx
  have e1 := sumW_p0 ps ft.good.w0
  have h1 : ¬ sumW ps = 0 := fun z => h (.inl z)
  have h2 : ¬ total ≤ sumL ps := fun z => h (.inr z)
  unfold sumL at h2
  unfold sumW at h1
  refine ⟨fun x _ hp => of_decide_eq_true hp, rfl, rfl, by rw [e1]; omega, ?_, fun x _ hx hp => ?_, fun x hx _ => hk x hx, ?_⟩
  · unfold sumL
    omega
  · rw [show p0 x = true from decide_eq_true hx] at hp
    cases hp
  · rw [if_neg (by decide)]
    refine ⟨hk, ?_⟩
    unfold sumL
    omega
theorem ovs_known {ps : List Pr} (h : ∀ x ∈ ps, x.1 ≠ none) : (ps.map fun x => ov x.1) = (ps.map lim).map V.int := by
  rw [List.map_map]
  exact List.map_congr_left fun x hx => ov_some (h x hx)
theorem ovs_runP {room W : Int} {f : Pr → Bool} {ps : List Pr} (h : ∀ x ∈ ps, f x = false → x.1 ≠ none) :
    setAll (ps.map fun x => ov x.1) ((((ps.zipIdx).filter fun x => f x.1).map fun x => x.2).zip ((runs room W 0 ((ps.zipIdx.filter fun x => f x.1).map fun x => x.1.2)).map V.int)) = (runP room W f 0 ps).map V.int :=
  setAll_run room W f V.int (fun x => ov x.1) ps [] 0 fun x hx hf => ov_some (h x hx hf)
theorem flat_ov (ps : List Pr) : (ps.map fun x => ov x.1).all flatV = true := by
  rw [List.all_eq_true]
  intro v hv
  obtain ⟨⟨c, _⟩, _, rfl⟩ := List.mem_map.mp hv
  cases c <;> rfl
theorem in_none (ps : List Pr) : inV .non (ps.map fun x => ov x.1) = decide (¬ ∀ x ∈ ps, x.1 ≠ none) := by
  unfold inV
  by_cases h : ∀ x ∈ ps, x.1 ≠ none
  · rw [decide_eq_false fun z => z h, List.any_eq_false]
    intro v hv e
    obtain ⟨x, hx, rfl⟩ := List.mem_map.mp hv
    simp only [ov_some (h x hx)] at e
    cases e
  · rw [decide_eq_true h, List.any_eq_true]
    have : ∃ x ∈ ps, x.1 = none := by
      refine Classical.byContradiction fun z => h fun x hx e => z ⟨x, hx, e⟩
    obtain ⟨x, hx, e⟩ := this
    refine ⟨ov x.1, List.mem_map.mpr ⟨x, hx, rfl⟩, ?_⟩
    rw [e]
    rfl
section
variable {P : Program} {w : World} {K : PySem.W.Frag} {mg : Str → Option Value} {base : Heap}
theorem ok_by_level (T : Txt K mg) : Ok P w K mg base CX0 "by_level" s_p_by_level 3 ["total", "limits", "weights", "binds"] (spBy mg) := by
  have O_p_unbound := ok_unbound (P := P) (w := w) (base := base) T
  have O_p_running_parts := ok_running (P := P) (w := w) (base := base) T
  have O_p_in_lowest_terms := ok_low (P := P) (w := w) (base := base) T
  refine T.h_p_by_level.ok sc_p_by_level (fun vs H Q E h => ?_) (fun f cdv A outer s H vs Q E hr h => ?_)
  · obtain ⟨_, _, _, _, _, _, rfl, _⟩ := h; rfl
  obtain ⟨total, la, wa, fa, cap, ps, rfl, hf, hla, hwa, ft, lv, q⟩ := h
  have n1 := ft.n1
  refine ⟨_, (pss_cons (ps_asg (callO O_p_unbound (hr.mono (by decide)) (by rfl) (pa_cons (pv 0) (pa_cons (pv 1) (pa_cons (pv 2) (pa_cons (pv 3) pa_nil))))) (pg_tup rfl (pgs_cons (pg_name (i := 4) sc_p_by_level.nd rfl (by first | exact Or.inl rfl | exact Or.inr rfl)) (pgs_cons (pg_name (i := 5) sc_p_by_level.nd rfl (by first | exact Or.inl rfl | exact Or.inr rfl)) (pgs_cons (pg_name (i := 6) sc_p_by_level.nd rfl (by first | exact Or.inl rfl | exact Or.inr rfl)) pgs_nil)))))
      (pss_cons (ps_set (i := 7) sc_p_by_level.nd rfl (by first | exact Or.inl rfl | exact Or.inr rfl) (pe_callTy call_list_of (by rfl) T.m_list (by decide +kernel) (pa_cons (pv 1) pa_nil)))
      (pss_cons (ps_for PassesOwn.never rfl (pi_zip (by rfl) T.m_zip (pa_cons (pv 4) (pa_cons (callO O_p_running_parts (hr.mono (by decide)) (by rfl) (pa_cons (pv 5) (pa_cons (pe_lc (own := [("place", 10)]) (te := (tOp (rIxL K) (tVar 2) (tVar 10))) (by rfl) sc_p_by_level.nd (pi_list (pv 4)) (blkOk_by (own := [("place", 10)]) (N := n_p_by_level) (sc := defScope s_p_by_level) (by decide +kernel)) (fun _ _ _ _ _ => (pg_name (i := 10) sc_p_by_level.nd rfl (by first | exact Or.inl rfl | exact Or.inr rfl))) (fun _ _ _ _ _ => pts_nil) (fun _ _ _ _ _ => (pe_ix ix_list (pv 2) (pv 10) (fun _ _ => rfl)))) pa_nil))) pa_nil))) (pg_tup rfl (pgs_cons (pg_name (i := 8) sc_p_by_level.nd rfl (by first | exact Or.inl rfl | exact Or.inr rfl)) (pgs_cons (pg_name (i := 9) sc_p_by_level.nd rfl (by first | exact Or.inl rfl | exact Or.inr rfl)) pgs_nil)))
      (pss_one (ps_asg (pv 9) (pg_sub (pv 7) (pv 8) set_list))))
      (pss_one (ps_ret (pe_tup (pa_cons (callO O_p_in_lowest_terms (hr.mono (by decide)) (by rfl) (pa_cons (pv 5) (pa_cons (pv 6) pa_nil))) (pa_cons (pv 7) pa_nil)))))))), ?_⟩
  refine ⟨_, rfl, _, rfl, _, rfl, _, rfl, total, la, wa, fa, cap, ps, rfl, hf, hla, hwa, ft, lv, fun t fl room W H1 nt fx b1 b2 et efl s1 => ⟨t, _, rfl, .of et, rfl, _, _, rfl, _, _, rfl, _, _, rfl, rfl, ?_⟩⟩
  have sr : small room := small_le fx.r0 b1 ft.t1
  have sw : small W := small_le (Int.le_of_lt fx.w0) b2 ft.w1
  refine ⟨_, rfl, la, _, rfl, .inl (.of (s1 _ _ hla)), fun Pp nP => ?_⟩
  have s2 := same_upd (o := .lst (ps.map fun x => ov x.1)) nP
  have eP : (upd H1 Pp (.lst (ps.map fun x => ov x.1))) Pp = some (.lst (ps.map fun x => ov x.1)) := upd_same
  generalize upd H1 Pp (.lst (ps.map fun x => ov x.1)) = H2 at s2 eP ⊢
  have hwa2 := s2 _ _ (s1 _ _ hwa)
  have hfl2 := s2 _ _ efl
  refine ⟨_, rfl, _, rfl, _, rfl, fl, rfl, ⟨_, .of hfl2⟩, fun D nD => lcF_list (K := K) (as := frI cap room W ps) eI (fun y => some y.1.2) V.int (.of hfl2) nD (Nat.le_trans (zlen _ _) (by omega)) ?_ ?_⟩
  · intro i x H3 A' B' hx s3 ka kb
    have hp := zidx (List.mem_filter.mp (List.mem_of_getElem? hx)).1
    exact ⟨rfl, yes_if ⟨_, rfl, _, rfl, wa, _, _, _, rfl, rfl, .of (s3 _ _ hwa2), atI_nat (j := x.2) (by rw [List.getElem?_map, hp]; rfl), ka _ _ rfl (Same.refl _)⟩⟩
  intro H3 s3 e3
  rw [fm_some] at e3
  have eW : ((frI cap room W ps).map fun y => y.1.2).sum = W := by
    unfold frI
    rw [zip_fst (free cap room W) (fun x => x.2)]
    exact fx.eW.symm
  refine ⟨room, D, _, rfl, e3, ?_, by rw [eW]; exact fx.w0, by rw [eW]; exact sw, sr, ?_, fun R H4 nR s4 eR => ?_⟩
  · intro n hn
    obtain ⟨y, hy, rfl⟩ := List.mem_map.mp hn
    exact ft.good.w0 _ (List.mem_of_getElem? (zidx (List.mem_filter.mp hy).1))
  · rw [List.length_map]
    exact Nat.le_trans (zlen _ _) (by omega)
  rw [eW] at eR
  have hfl4 := s4 _ _ (s3 _ _ hfl2)
  have eP4 := s4 _ _ (s3 _ _ eP)
  have nfl : fl ≠ Pp := ne_of_none efl nP
  have nR2 : R ≠ Pp := fun z => by
    rw [z] at nR
    rw [s3 _ _ eP] at nR
    cases nR
  have efl' : (frI cap room W ps).map eI = ((frI cap room W ps).map fun x => x.2).map fun (n : Nat) => V.int (n : Int) := by
    rw [List.map_map]
    rfl
  have hlen : (((frI cap room W ps).map fun x => x.2).zip ((runs room W 0 ((frI cap room W ps).map fun y => y.1.2)).map V.int)).length = min ((frI cap room W ps).map eI).length ((runs room W 0 ((frI cap room W ps).map fun y => y.1.2)).map V.int).length := by
    rw [List.length_zip, List.length_map, List.length_map, List.length_map]
  refine ⟨fl, R, _, _, rfl, .of hfl4, .of eR, for_it (L2.walk_zip (xs := (frI cap room W ps).map eI) (ys := (runs room W 0 ((frI cap room W ps).map fun y => y.1.2)).map V.int) hlen)
    (fun i σ H' => ∃ v8 v9 v10, σ = [some (.int total), some (.ref la), some (.ref wa), some (.ref fa), some (.ref fl), some (.int room), some (.int W), some (.ref Pp), v8, v9, v10] ∧ H' Pp = some (.lst (setAll (ps.map fun x => ov x.1) ((((frI cap room W ps).map fun x => x.2).zip ((runs room W 0 ((frI cap room W ps).map fun y => y.1.2)).map V.int)).take i))) ∧ Off Pp H4 H')
    ⟨none, none, none, rfl, eP4, Off.refl⟩ (fun i σ H' _ h => by
      obtain ⟨_, _, _, _, _, o⟩ := h
      exact ⟨.of (o _ _ hfl4 nfl), .of (o _ _ eR nR2)⟩) ?_ ?_⟩
  · rintro i y σ H' H'' hi ⟨v8, v9, v10, rfl, hP, o⟩ ⟨Tt, x, z, rfl, nT, rfl, hx, hz⟩
    replace hx : ((frI cap room W ps).map eI)[i]? = some x := hx
    replace hz : ((runs room W 0 ((frI cap room W ps).map fun y => y.1.2)).map V.int)[i]? = some z := hz
    rw [List.getElem?_map] at hx
    cases ex : (frI cap room W ps)[i]? with
    | none => rw [ex] at hx; cases hx
    | some yy =>
      rw [ex] at hx
      cases hx
      have hp := zidx (List.mem_filter.mp (List.mem_of_getElem? ex)).1
      have ez : (((frI cap room W ps).map fun x => x.2).zip ((runs room W 0 ((frI cap room W ps).map fun y => y.1.2)).map V.int))[i]? = some (yy.2, z) := by
        rw [List.getElem?_zip_eq_some]
        refine ⟨?_, hz⟩
        rw [List.getElem?_map, ex]
        rfl
      have hP2 := same_upd (o := .tup [eI yy, z]) nT _ _ hP
      have nTP : Tt ≠ Pp := (ne_of_none hP nT).symm
      refine ⟨Tt, _, rfl, .of upd_same, rfl, _, _, rfl, _, _, rfl, rfl, ?_⟩
      refine ⟨_, rfl, _, rfl, _, rfl, Pp, _, _, yy.2, rfl, rfl, hP2, ?_, ?_⟩
      · refine ixN_at ?_
        rw [setAll_len, List.length_map]
        exact (List.getElem?_eq_some_iff.mp hp).1
      refine ⟨_, _, _, rfl, ?_, ?_⟩
      · rw [upd_same, List.take_add_one, ez]
        show _ = some (HO.lst (setAll _ (_ ++ [(yy.2, z)])))
        rw [setAll_snoc]
      · exact (o.trans (off_new nT)).trans off_upd
  rintro σ H' ⟨v8, v9, v10, rfl, hP, o⟩
  rw [List.take_length] at hP
  rw [show (frI cap room W ps) = ps.zipIdx.filter (fun x => free cap room W x.1) from rfl, ovs_runP fx.known] at hP
  have e1 : (room.toNat : Int) = room := Int.toNat_of_nonneg fx.r0
  have e2 : (W.toNat : Int) = W := Int.toNat_of_nonneg (Int.le_of_lt fx.w0)
  have s5 : Same H H' := fun b x e => o b x (s4 _ _ (s3 _ _ (s2 _ _ (s1 _ _ e)))) (ne_of_none (s1 _ _ e) nP)
  refine ⟨_, rfl, _, rfl, room.toNat, W.toNat, by rw [e1, e2]; rfl, by have := fx.w0; omega, by rw [e1]; exact sr, by rw [e2]; exact sw, fun L H5 nL s6 eL => ⟨_, rfl, (by show 2 ≤ sizeLine; decide), fun t2 nt2 => ?_⟩⟩
  have s7 := same_upd (o := .tup [.ref L, .ref Pp]) nt2
  exact q t2 Pp (.ref L) room W _ (sback s5 (sback s6 nt2)) (sback s1 nP) fx upd_same ⟨L, rfl, s7 _ _ eL⟩ (s7 _ _ (s6 _ _ hP)) ((s5.trans s6).trans s7)
theorem ok_dealt (T : Txt K mg) : Ok P w K mg base CX0 "dealt" s_p_dealt 5 ["total", "caps", "weights"] spDealt := by
  have O_p_refuse_no_counts := ok_no_counts (P := P) (w := w) (base := base) T
  have O_p_refuse_no_list := ok_no_list (P := P) (w := w) (base := base) T
  have O_p_refuse_no_weights := ok_no_weights (P := P) (w := w) (base := base) T
  have O_p_by_level := ok_by_level (P := P) (w := w) (base := base) T
  obtain ⟨f_p_cap_binds, _, _, g_p_cap_binds, _⟩ := T.h_p_cap_binds
  refine T.h_p_dealt.ok sc_p_dealt (fun vs H Q E h => ?_) (fun f cdv A outer s H vs Q E hr h => ?_)
  · obtain ⟨_, _, _, _, rfl, _⟩ := h; rfl
  obtain ⟨total, ca, wa, ps, rfl, hca, hwa, ft, q⟩ := h
  have n1 := ft.n1
  refine ⟨_, (pss_cons (ps_expr (callO O_p_refuse_no_counts (hr.mono (by decide)) (by rfl) (pa_cons (pe_lst (pa_cons (pv 0) pa_nil)) pa_nil)))
      (pss_cons (ps_expr (callO O_p_refuse_no_list (hr.mono (by decide)) (by rfl) (pa_cons (pv 1) pa_nil)))
      (pss_cons (ps_expr (callO O_p_refuse_no_counts (hr.mono (by decide)) (by rfl) (pa_cons (pe_lc (own := [("cap", 3)]) (by rfl) sc_p_dealt.nd (pi_list (pv 1)) (blkOk_by (own := [("cap", 3)]) (N := n_p_dealt) (sc := defScope s_p_dealt) (by decide +kernel)) (fun _ _ _ _ _ => (pg_name (i := 3) sc_p_dealt.nd rfl (by first | exact Or.inl rfl | exact Or.inr rfl))) (fun _ _ _ _ _ => (pts_one (pt_cmpR op_notN (pv 3) pe_non (nomark _)))) (fun _ _ _ _ _ => (pv 3))) pa_nil)))
      (pss_cons (ps_expr (callO O_p_refuse_no_weights (hr.mono (by decide)) (by rfl) (pa_cons (pv 2) (pa_cons (pe_callB call_len (by rfl) T.m_len (by decide +kernel) (pa_cons (pv 1) pa_nil)) pa_nil))))
      (pss_cons (ps_setLc (i := 4) (own := [("cap", 3), ("weight", 5)]) (g := gTup K 2 (gCons (gName 3) (gCons (gName 5) gNil))) (by rfl) sc_p_dealt.nd rfl rfl (sw_true rfl rfl rfl (by decide +kernel)) (pi_zip (by rfl) T.m_zip (pa_cons (pv 1) (pa_cons (pv 2) pa_nil))) (blkOk_by (own := [("cap", 3), ("weight", 5)]) (N := n_p_dealt) (sc := defScope s_p_dealt) (by decide +kernel)) (fun _ _ _ _ _ => (pg_tup rfl (pgs_cons (pg_name (i := 3) sc_p_dealt.nd rfl (by first | exact Or.inl rfl | exact Or.inr rfl)) (pgs_cons (pg_name (i := 5) sc_p_dealt.nd rfl (by first | exact Or.inl rfl | exact Or.inr rfl)) pgs_nil)))) (fun _ _ _ _ _ => pts_nil) (fun _ _ _ _ _ => (pe_ifExp (pt_cmpR op_gt (pv 5) pe_int (nomark _)) (pv 3) pe_int)))
      (pss_cons (ps_if (PW.pt (pw_and (pt_cmpR op_notIn_seq pe_non (pv 4) (by rfl)) (pw_and1 (pt_cmpR op_le (pe_callB (cr_sum rfl) (by rfl) T.m_sum (by decide +kernel) (pa_cons (pv 4) pa_nil)) (pv 0) (nomark _)))))
      (pss_one (ps_ret (pe_tup (pa_cons pe_non (pa_cons (pv 4) pa_nil)))))
      pss_nil)
      (pss_one (ps_ret (callO O_p_by_level (hr.mono (by decide)) (by rfl) (pa_cons (pv 0) (pa_cons (pv 4) (pa_cons (pv 2) (pa_cons (pe_glob (v := .ref f_p_cap_binds) (by rfl) g_p_cap_binds rfl) pa_nil))))))))))))), ?_⟩
  refine ⟨_, rfl, (by show 1 ≤ sizeLine; decide), fun p1 m1 => ⟨p1, [total], rfl, upd_same, fun n hn => by rw [List.mem_singleton.mp hn]; exact ft.t0, ?_⟩⟩
  have s1 := same_upd (o := .lst [.int total]) m1
  show tSeq _ _ _ _ (upd H p1 (.lst [.int total]))
  generalize upd H p1 (.lst [.int total]) = H1 at s1 ⊢
  refine ⟨_, rfl, ca, _, rfl, s1 _ _ hca, ?_⟩
  refine ⟨_, rfl, ca, rfl, ⟨_, .of (s1 _ _ hca)⟩, fun D nD => lcF_list (K := K) (as := ps) (fun x => ov x.1) (fun x => x.1) V.int (.of (s1 _ _ hca)) nD (by omega) ?_ ?_⟩
  · rintro i ⟨c, wt⟩ H' A' B' hx sm ka kb
    cases c with
    | none => exact ⟨rfl, _, rfl, rfl, _, rfl, iteF (kb _ rfl (Same.refl _))⟩
    | some c => exact ⟨rfl, _, rfl, rfl, _, rfl, iteT ⟨_, rfl, ka _ _ rfl (Same.refl _)⟩⟩
  intro H2 s2 e2
  refine ⟨D, _, rfl, e2, fun n hn => ?_, ?_⟩
  · obtain ⟨x, hx, e⟩ := List.mem_filterMap.mp hn
    have := ft.good.l0 x hx
    unfold lim at this
    rw [e] at this
    exact this
  have s12 := s1.trans s2
  have hwa2 : H2 wa = some (.lst ((ps.map fun x => x.2).map V.int)) := by
    rw [List.map_map]
    exact s12 _ _ hwa
  refine ⟨_, rfl, _, rfl, _, _, rfl, .inl ⟨_, .of (s12 _ _ hca), rfl⟩, wa, ps.map fun x => x.2, ?_, hwa2, fun n hn => ?_, ?_⟩
  · rw [List.length_map, List.length_map]
    rfl
  · obtain ⟨x, hx, rfl⟩ := List.mem_map.mp hn
    exact ft.good.w0 x hx
  refine ⟨_, rfl, _, rfl, ca, wa, _, _, rfl, .of (s12 _ _ hca), .of (s12 _ _ hwa), fun L nL => lcF_zip (K := K) (as := ps) (bs := ps) (fun x => ov x.1) (fun x => V.int x.2) (fun x _ => some (lims1 x)) (fun x => ov x.1) (.of (s12 _ _ hca)) (.of (s12 _ _ hwa)) nL (by omega) ?_ ?_⟩
  · intro i x y H' A' B' hx hy sm ka kb
    rw [hx] at hy
    cases hy
    refine ⟨rfl, yes_if ⟨_, rfl, _, _, rfl, rfl, _, rfl, ite2 (fun e => ⟨_, rfl, ?_⟩) (fun e => ?_)⟩⟩
    · have h1 : 0 < x.2 := of_decide_eq_true e
      have := ka _ _ rfl (Same.refl H')
      unfold lims1 at this
      rw [if_pos h1] at this
      exact this
    · have h1 : ¬ 0 < x.2 := fun z => e (decide_eq_true z)
      have := ka _ _ rfl (Same.refl H')
      unfold lims1 at this
      rw [if_neg h1] at this
      exact this
  intro H3 s3 e3
  rw [fm_zip_self (fun (x _ : Pr) => some (lims1 x)) ps, fm_some] at e3
  replace e3 : H3 L = some (.lst ((lims ps).map fun x => ov x.1)) := e3
  have s13 := s12.trans s3
  have byl : ¬ allCapped total ps → tRet (tCall (spBy mg) [] E0 (tCons (tVar 0) (tCons (tVar 4) (tCons (tVar 2) (tCons (tC (.ref f_p_cap_binds)) tNil))))) { nx := fun _ H' => Q .non H', rt := Q } (List.set (L2.start n_p_dealt [V.int total, V.ref ca, V.ref wa]) 4 (some (.ref L))) H3 := fun hn => by
    refine ⟨_, rfl, _, rfl, _, rfl, total, L, wa, f_p_cap_binds, true, lims ps, rfl, ⟨g_p_cap_binds, by first | exact trivial | exact rfl⟩, e3, ?_, fits_lims ft, lev0_cap ft hn, fun t p lvv room W H' nt np fx et el ep sm => ?_⟩
    · rw [lims_w]
      exact s13 _ _ hwa
    · exact q t p lvv _ _ H' (sback s13 nt) (sback s13 np) (.inr ⟨hn, room, W, fx, rfl, rfl⟩) et el ep (s13.trans sm)
  refine ⟨_, rfl, L, _, rfl, .inl (.of e3), rfl, flat_ov _, _, rfl, ?_⟩
  rw [in_none]
  by_cases hk : ∀ x ∈ lims ps, x.1 ≠ none
  · rw [decide_eq_false fun z => z hk]
    have e4 := e3
    rw [ovs_known hk] at e4
    refine iteT ⟨_, rfl, L, _, rfl, .of e4, _, rfl, _, _, rfl, rfl, _, rfl, ite2 (fun e => ?_) (fun e => ?_)⟩
    · refine ⟨_, rfl, (by show 2 ≤ sizeLine; decide), fun t nt => ?_⟩
      have s4 := same_upd (o := .tup [.non, .ref L]) nt
      exact q t L .non none _ _ (sback s13 nt) (sback s12 nL) (.inl ⟨⟨hk, of_decide_eq_true e⟩, rfl, rfl⟩) upd_same rfl (s4 _ _ e4) (s13.trans s4)
    · exact byl fun z => e (decide_eq_true z.2)
  · rw [decide_eq_true hk]
    exact iteF (iteF (byl fun z => hk z.1))
theorem ok_levelled (T : Txt K mg) : Ok P w K mg base CX0 "levelled" s_p_levelled 5 ["total", "floors", "weights"] spLevelled := by
  have O_p_refuse_no_counts := ok_no_counts (P := P) (w := w) (base := base) T
  have O_p_refuse_no_list := ok_no_list (P := P) (w := w) (base := base) T
  have O_p_refuse_no_weights := ok_no_weights (P := P) (w := w) (base := base) T
  have O_p_by_level := ok_by_level (P := P) (w := w) (base := base) T
  obtain ⟨f_p_floor_binds, _, _, g_p_floor_binds, _⟩ := T.h_p_floor_binds
  refine T.h_p_levelled.ok sc_p_levelled (fun vs H Q E h => ?_) (fun f cdv A outer s H vs Q E hr h => ?_)
  · obtain ⟨_, _, _, _, rfl, _⟩ := h; rfl
  obtain ⟨total, ca, wa, ps, rfl, hca, hwa, hk, ft, q⟩ := h
  have n1 := ft.n1
  refine ⟨_, (pss_cons (ps_expr (callO O_p_refuse_no_counts (hr.mono (by decide)) (by rfl) (pa_cons (pe_lst (pa_cons (pv 0) pa_nil)) pa_nil)))
      (pss_cons (ps_expr (callO O_p_refuse_no_list (hr.mono (by decide)) (by rfl) (pa_cons (pv 1) pa_nil)))
      (pss_cons (ps_expr (callO O_p_refuse_no_counts (hr.mono (by decide)) (by rfl) (pa_cons (pv 1) pa_nil)))
      (pss_cons (ps_expr (callO O_p_refuse_no_weights (hr.mono (by decide)) (by rfl) (pa_cons (pv 2) (pa_cons (pe_callB call_len (by rfl) T.m_len (by decide +kernel) (pa_cons (pv 1) pa_nil)) pa_nil))))
      (pss_cons (ps_if (PW.pt (pw_or (pt_cmpR op_eq (pe_callB (cr_sum rfl) (by rfl) T.m_sum (by decide +kernel) (pa_cons (pv 2) pa_nil)) pe_int (nomark _)) (pw_or1 (pt_cmpR op_ge (pe_callB (cr_sum rfl) (by rfl) T.m_sum (by decide +kernel) (pa_cons (pv 1) pa_nil)) (pv 0) (nomark _)))))
      (pss_one (ps_ret (pe_tup (pa_cons pe_non (pa_cons (pe_callTy call_list_of (by rfl) T.m_list (by decide +kernel) (pa_cons (pv 1) pa_nil)) pa_nil)))))
      pss_nil)
      (pss_one (ps_ret (callO O_p_by_level (hr.mono (by decide)) (by rfl) (pa_cons (pv 0) (pa_cons (pv 1) (pa_cons (pv 2) (pa_cons (pe_glob (v := .ref f_p_floor_binds) (by rfl) g_p_floor_binds rfl) pa_nil)))))))))))), ?_⟩
  refine ⟨_, rfl, (by show 1 ≤ sizeLine; decide), fun p1 m1 => ⟨p1, [total], rfl, upd_same, fun n hn => by rw [List.mem_singleton.mp hn]; exact ft.t0, ?_⟩⟩
  have s1 := same_upd (o := .lst [.int total]) m1
  show tSeq _ _ _ _ (upd H p1 (.lst [.int total]))
  generalize upd H p1 (.lst [.int total]) = H1 at s1 ⊢
  have hca1 : H1 ca = some (.lst ((ps.map lim).map V.int)) := by
    rw [← ovs_known hk]
    exact s1 _ _ hca
  have hwa1 : H1 wa = some (.lst ((ps.map fun x => x.2).map V.int)) := by
    rw [List.map_map]
    exact s1 _ _ hwa
  refine ⟨_, rfl, ca, _, rfl, s1 _ _ hca, ?_⟩
  refine ⟨_, rfl, ca, _, rfl, hca1, fun n hn => ?_, ?_⟩
  · obtain ⟨x, hx, rfl⟩ := List.mem_map.mp hn
    exact ft.good.l0 x hx
  refine ⟨_, rfl, _, rfl, _, _, rfl, .inl ⟨_, .of (s1 _ _ hca), rfl⟩, wa, ps.map fun x => x.2, ?_, hwa1, fun n hn => ?_, ?_⟩
  · rw [List.length_map, List.length_map]
    rfl
  · obtain ⟨x, hx, rfl⟩ := List.mem_map.mp hn
    exact ft.good.w0 x hx
  have ret : (sumW ps = 0 ∨ total ≤ sumL ps) → tRet (tTup (tCons (tC .non) (tCons (tCB (fun xs H Q => ∃ p ys, xs = [.ref p] ∧ (SqL K H p ys ∨ SqT K H p ys) ∧ ∀ l, H l = none → Q (.ref l) (upd H l (.lst ys))) (tCons (tVar 1) tNil)) tNil))) { nx := fun _ H' => Q .non H', rt := Q } (L2.start n_p_levelled [V.int total, V.ref ca, V.ref wa]) H1 := fun hn => by
    refine ⟨_, rfl, ca, _, rfl, .inl (.of hca1), fun L nL => ⟨(by show 2 ≤ sizeLine; decide), fun t nt => ?_⟩⟩
    have s2 := same_upd (o := .lst ((ps.map lim).map V.int)) nL
    have s3 := same_upd (o := .tup [.non, .ref L]) nt
    exact q t L .non none _ _ (sback s1 (sback s2 nt)) (sback s1 nL) (.inl ⟨hn, rfl, rfl⟩) upd_same rfl (s3 _ _ upd_same) ((s1.trans s2).trans s3)
  refine ⟨_, rfl, wa, _, rfl, .of hwa1, rfl, _, rfl, ite2 (fun e => iteT ?_) (fun e => ?_)⟩
  · exact ret (.inl (V.int.inj (of_decide_eq_true e)))
  refine ⟨_, rfl, ca, _, rfl, .of hca1, _, rfl, _, _, rfl, rfl, _, rfl, ite2 (fun e2 => ?_) (fun e2 => ?_)⟩
  · exact ret (.inr (of_decide_eq_true e2))
  have hn : ¬ (sumW ps = 0 ∨ total ≤ sumL ps) := fun z => by
    rcases z with z | z
    · apply e
      unfold sumW at z
      rw [z]
      exact decide_eq_true rfl
    · exact e2 (decide_eq_true z)
  refine ⟨_, rfl, _, rfl, _, rfl, total, ca, wa, f_p_floor_binds, false, ps, rfl, ⟨g_p_floor_binds, by first | exact trivial | exact rfl⟩, s1 _ _ hca, s1 _ _ hwa, ft, lev0_flo ft hk hn, fun t p lvv room W H' nt np fx et el ep sm => ?_⟩
  exact q t p lvv _ _ H' (sback s1 nt) (sback s1 np) (.inr ⟨hn, room, W, fx, rfl, rfl⟩) et el ep (s1.trans sm)
end

/-! ### a level that is known -/
theorem mk_fits {α : Type} (f : α → Int) : ∀ (l : List α) (B : Int), (∀ x ∈ l, f x ≤ B) → 0 ≤ B → (l.map f).sum ≤ (l.length : Int) * B
  | [], B, _, _ => by simp
  | x :: r, B, h, hB => by
    have h1 := h x List.mem_cons_self
    have h2 := mk_fits f r B (fun y hy => h y (List.mem_cons_of_mem _ hy)) hB
    rw [List.map_cons, List.sum_cons, List.length_cons, Int.natCast_add, Int.add_mul]
    omega
def fnd (top : Int) (x : Pr) : Int := match x.1 with
  | none => x.2 * top
  | some c => if x.2 * top < c then x.2 * top else c
def fndF (top : Int) (x : Pr) : Int := if x.2 * top > lim x then x.2 * top else lim x
def wt (bot : Int) (x : Pr) : Pr := (x.1, x.2 * bot)
def above (top : Int) (x : Pr) : Bool := decide (0 < x.2) && (match x.1 with | none => true | some c => decide (x.2 * top < c))
section
variable {top bot : Int}
theorem free_wt (hb : 0 < bot) (x : Pr) (h0 : 0 ≤ x.2) : free true top bot (lims1 (wt bot x)) = above top x := by
  obtain ⟨c, u⟩ := x
  have h0 : 0 ≤ u := h0
  unfold lims1 wt above
  by_cases hu : 0 < u
  · have hw : 0 < u * bot := Int.mul_pos hu hb
    rw [if_pos hw]
    unfold free
    show (decide (0 < u * bot) && !bnd true (c, u * bot) top bot) = _
    rw [decide_eq_true hw, decide_eq_true hu]
    cases c with
    | none => rfl
    | some c =>
      show (!decide (c * bot ≤ top * (u * bot))) = decide (u * top < c)
      have e : top * (u * bot) = u * top * bot := by rw [← Int.mul_assoc, Int.mul_comm top u]
      rw [e]
      by_cases h : c ≤ u * top
      · rw [decide_eq_true (Int.mul_le_mul_of_nonneg_right h (Int.le_of_lt hb)), decide_eq_false (by omega)]
        rfl
      · rw [decide_eq_false (fun z => h (Int.le_of_mul_le_mul_right z hb)), decide_eq_true (by omega)]
        rfl
  · have hu0 : u = 0 := by omega
    subst hu0
    rw [if_neg (by simp)]
    unfold free
    show (decide (0 < 0 * bot) && _) = (decide ((0 : Int) < 0) && _)
    rw [Int.zero_mul]
    rfl
theorem lim_wt (hb : 0 < bot) (x : Pr) (h0 : 0 ≤ x.2) (hl : 0 ≤ lim x) (h : above top x = false) : lims1 (wt bot x) ≠ (none, x.2 * bot) ∧ (lims1 (wt bot x)).1 ≠ none ∧ lim (lims1 (wt bot x)) = fnd top x := by
  obtain ⟨c, u⟩ := x
  have h0 : 0 ≤ u := h0
  unfold lims1 wt fnd
  unfold above at h
  by_cases hu : 0 < u
  · have hw : 0 < u * bot := Int.mul_pos hu hb
    simp only [hw, if_true]
    simp only [hu, decide_true, Bool.true_and] at h
    cases c with
    | none => cases h
    | some c =>
      have h1 : ¬ u * top < c := of_decide_eq_false h
      refine ⟨by simp, by simp, ?_⟩
      show c = if u * top < c then u * top else c
      rw [if_neg h1]
  · have hu0 : u = 0 := by omega
    subst hu0
    simp only [Int.zero_mul, Int.lt_irrefl, if_false]
    refine ⟨by simp, by simp, ?_⟩
    cases c with
    | none => rfl
    | some c =>
      have : 0 ≤ c := hl
      show 0 = if 0 < c then 0 else c
      split <;> omega
theorem val_wt (hb : 0 < bot) (x : Pr) (h0 : 0 ≤ x.2) (hl : 0 ≤ lim x) : val true top bot (lims1 (wt bot x)) = fnd top x * bot := by
  unfold val
  rw [free_wt hb x h0]
  cases h : above top x with
  | true =>
    obtain ⟨c, u⟩ := x
    unfold above at h
    rw [Bool.and_eq_true] at h
    have hu : 0 < u := of_decide_eq_true h.1
    have hw : 0 < u * bot := Int.mul_pos hu hb
    rw [if_pos rfl]
    unfold lims1 wt fnd
    simp only [hw, if_true]
    have e : top * (u * bot) = u * top * bot := by rw [← Int.mul_assoc, Int.mul_comm top u]
    rw [e]
    cases c with
    | none => rfl
    | some c =>
      have h1 : u * top < c := of_decide_eq_true h.2
      show _ = (if u * top < c then u * top else c) * bot
      rw [if_pos h1]
  | false =>
    rw [if_neg (by decide), (lim_wt hb x h0 hl h).2.2]
theorem part_wt (hb : 0 < bot) (x : Pr) (h0 : 0 ≤ x.2) (hl : 0 ≤ lim x) : (if above top x = true then top * ((lims1 (wt bot x)).2 / bot) else lim (lims1 (wt bot x))) = fnd top x := by
  have e2 : (lims1 (wt bot x)).2 = x.2 * bot := by
    unfold lims1
    split <;> rfl
  cases h : above top x with
  | true =>
    rw [if_pos rfl, e2, Int.mul_ediv_cancel _ (by omega)]
    obtain ⟨c, u⟩ := x
    unfold above at h
    rw [Bool.and_eq_true] at h
    unfold fnd
    cases c with
    | none => exact Int.mul_comm _ _
    | some c =>
      have h1 : u * top < c := of_decide_eq_true h.2
      show top * u = if u * top < c then u * top else c
      rw [if_pos h1, Int.mul_comm]
  | false =>
    rw [if_neg (by decide), (lim_wt hb x h0 hl h).2.2]
end
theorem known_cap {t b : Nat} {ps : List Pr} (hb : 0 < b) (hg : Nat.gcd t b = 1) (g : Good ps) {lv : Option (Int × Int)} {parts : List Int} (h : Dealt (ps.map (fnd (t : Int))).sum (ps.map (wt (b : Int))) lv parts) :
    parts = ps.map (fnd (t : Int)) ∧ lv = if ps.any (above (t : Int)) = true then some ((t : Int), (b : Int)) else none := by
  have hb' : (0 : Int) < (b : Int) := by omega
  have el : lims (ps.map (wt (b : Int))) = ps.map fun x => lims1 (wt (b : Int) x) := by
    unfold lims
    rw [List.map_map]
    rfl
  cases hA : ps.any (above (t : Int)) with
  | true =>
    rw [List.any_eq_true] at hA
    obtain ⟨x, hx, ax⟩ := hA
    have V1 : Val true (ps.map (fnd (t : Int))).sum (lims (ps.map (wt (b : Int)))) (t : Int) (b : Int) := by
      refine ⟨hb', by omega, ?_, lims1 (wt (b : Int) x), ?_, ?_⟩
      · rw [el, List.map_map, ← sum_mulr]
        congr 1
        exact List.map_congr_left fun y hy => val_wt hb' y (g.w0 y hy) (g.l0 y hy)
      · rw [el]
        exact List.mem_map.mpr ⟨x, hx, rfl⟩
      · rw [free_wt hb' x (g.w0 x hx)]
        exact ax
    rcases h with ⟨hc, _⟩ | ⟨_, room, W, fx, rfl, rfl⟩
    · exfalso
      have := V1.over hc.1 fun y hy hy0 => by
        unfold val
        rw [if_neg]
        intro z
        have := (free_iff.mp z).1
        omega
      have := hc.2
      omega
    · have e := fx.val.unique V1
      refine ⟨?_, by rw [if_pos rfl, low_of e hg hb fx.w0 fx.r0]⟩
      have := runP_exact fx.w0 e (free true room W) (lims (ps.map (wt (b : Int)))) 0 (fun y hy => by
        rw [el] at hy
        obtain ⟨z, _, rfl⟩ := List.mem_map.mp hy
        refine ⟨z.2, ?_⟩
        unfold lims1
        split <;> rfl) hb'
      rw [Int.zero_mul] at this
      rw [this, el, List.map_map]
      refine List.map_congr_left fun y hy => ?_
      show (if free true room W (lims1 (wt (b : Int) y)) = true then _ else _) = _
      rw [free_same fx.w0 hb' e, free_wt hb' y (g.w0 y hy)]
      exact part_wt hb' y (g.w0 y hy) (g.l0 y hy)
  | false =>
    rw [List.any_eq_false] at hA
    have hA' : ∀ y ∈ ps, above (t : Int) y = false := fun y hy => by
      cases e : above (t : Int) y with
      | false => rfl
      | true => exact absurd e (hA y hy)
    have em : (lims (ps.map (wt (b : Int)))).map lim = ps.map (fnd (t : Int)) := by
      rw [el, List.map_map]
      exact List.map_congr_left fun y hy => (lim_wt hb' y (g.w0 y hy) (g.l0 y hy) (hA' y hy)).2.2
    have hc : allCapped (ps.map (fnd (t : Int))).sum (ps.map (wt (b : Int))) := by
      refine ⟨fun y hy => ?_, ?_⟩
      · rw [el] at hy
        obtain ⟨z, hz, rfl⟩ := List.mem_map.mp hy
        exact (lim_wt hb' z (g.w0 z hz) (g.l0 z hz) (hA' z hz)).2.1
      · unfold sumL
        rw [em]
        exact Int.le_refl _
    rcases h with ⟨_, rfl, rfl⟩ | ⟨hn, _⟩
    · exact ⟨em, by rw [if_neg (by decide)]⟩
    · exact absurd hc hn
theorem sumW_pos {ls : List Pr} (h : ∀ x ∈ ls, 0 ≤ x.2) (hx : ∃ x ∈ ls, 0 < x.2) : 0 < sumW ls := by
  have := sum_lt (fun _ => 0) (fun x => x.2) (ls := ls) h hx
  rw [sum_zero (fun _ => 0) ls fun _ _ => rfl] at this
  exact this
theorem free_wtF {top bot : Int} (hb : 0 < bot) (ht : 0 ≤ top) (x : Pr) (h0 : 0 ≤ x.2) (hl : 0 ≤ lim x) : free false top bot (wt bot x) = decide (x.2 * top > lim x) := by
  obtain ⟨c, u⟩ := x
  have h0 : 0 ≤ u := h0
  unfold free wt
  show (decide (0 < u * bot) && !decide (top * (u * bot) ≤ c.getD 0 * bot)) = decide (u * top > c.getD 0)
  have hl : 0 ≤ c.getD 0 := hl
  have e : top * (u * bot) = u * top * bot := by rw [← Int.mul_assoc, Int.mul_comm top u]
  rw [e]
  by_cases h : u * top ≤ c.getD 0
  · rw [decide_eq_true (Int.mul_le_mul_of_nonneg_right h (Int.le_of_lt hb)), decide_eq_false (show ¬ u * top > c.getD 0 by omega)]
    simp
  · have hu : 0 < u := by
      rcases Int.lt_or_le 0 u with z | z
      · exact z
      · exfalso
        have : u = 0 := by omega
        rw [this, Int.zero_mul] at h
        omega
    rw [decide_eq_false (fun z => h (Int.le_of_mul_le_mul_right z hb)), decide_eq_true (Int.mul_pos hu hb), decide_eq_true (by omega)]
    rfl
theorem known_flo {t b : Nat} {ps : List Pr} (hb : 0 < b) (hg : Nat.gcd t b = 1) (g : Good ps) {lv : Option (Int × Int)} {parts : List Int} (h : Levelled (ps.map (fndF (t : Int))).sum (ps.map (wt (b : Int))) lv parts) :
    parts = ps.map (fndF (t : Int)) ∧ lv = if ps.any (fun x => decide (x.2 * (t : Int) > lim x)) = true then some ((t : Int), (b : Int)) else none := by
  have hb' : (0 : Int) < (b : Int) := by omega
  have ht' : (0 : Int) ≤ (t : Int) := by omega
  cases hA : ps.any (fun x => decide (x.2 * (t : Int) > lim x)) with
  | true =>
    rw [List.any_eq_true] at hA
    obtain ⟨x, hx, ax⟩ := hA
    have V1 : Val false (ps.map (fndF (t : Int))).sum (ps.map (wt (b : Int))) (t : Int) (b : Int) := by
      refine ⟨hb', by omega, ?_, wt (b : Int) x, List.mem_map.mpr ⟨x, hx, rfl⟩, ?_⟩
      · rw [List.map_map, ← sum_mulr]
        congr 1
        refine List.map_congr_left fun y hy => ?_
        show val false (t : Int) (b : Int) (wt (b : Int) y) = fndF (t : Int) y * (b : Int)
        unfold val fndF
        rw [free_wtF hb' ht' y (g.w0 y hy) (g.l0 y hy)]
        by_cases e : y.2 * (t : Int) > lim y
        · rw [if_pos (decide_eq_true e), if_pos e]
          show (t : Int) * (y.2 * (b : Int)) = _
          rw [← Int.mul_assoc, Int.mul_comm (t : Int)]
        · rw [if_neg (by rw [decide_eq_false e]; decide), if_neg e]
          rfl
      · rw [free_wtF hb' ht' x (g.w0 x hx) (g.l0 x hx)]
        exact ax
    rcases h with ⟨hc, _⟩ | ⟨_, room, W, fx, rfl, rfl⟩
    · exfalso
      rcases hc with hc | hc
      · obtain ⟨y, hy, fy⟩ := V1.fr
        have := sumW_pos (ls := ps.map (wt (b : Int))) (fun z hz => by
          obtain ⟨v, hv, rfl⟩ := List.mem_map.mp hz
          exact Int.mul_nonneg (g.w0 v hv) (Int.le_of_lt hb')) ⟨y, hy, (free_iff.mp fy).1⟩
        omega
      · have := V1.under
        omega
    · have e := fx.val.unique V1
      refine ⟨?_, by rw [if_pos rfl, low_of e hg hb fx.w0 fx.r0]⟩
      have := runP_exact fx.w0 e (free false room W) (ps.map (wt (b : Int))) 0 (fun y hy => by
        obtain ⟨z, _, rfl⟩ := List.mem_map.mp hy
        exact ⟨z.2, rfl⟩) hb'
      rw [Int.zero_mul] at this
      rw [this, List.map_map]
      refine List.map_congr_left fun y hy => ?_
      show (if free false room W (wt (b : Int) y) = true then (t : Int) * (y.2 * (b : Int) / (b : Int)) else lim y) = fndF (t : Int) y
      rw [free_same fx.w0 hb' e, free_wtF hb' ht' y (g.w0 y hy) (g.l0 y hy), Int.mul_ediv_cancel _ (by omega)]
      unfold fndF
      by_cases e : y.2 * (t : Int) > lim y
      · rw [if_pos (decide_eq_true e), if_pos e, Int.mul_comm]
      · rw [if_neg (by rw [decide_eq_false e]; decide), if_neg e]
  | false =>
    rw [List.any_eq_false] at hA
    have em : (ps.map (wt (b : Int))).map lim = ps.map (fndF (t : Int)) := by
      rw [List.map_map]
      refine List.map_congr_left fun y hy => ?_
      show lim y = fndF (t : Int) y
      unfold fndF
      rw [if_neg]
      intro z
      exact hA y hy (decide_eq_true z)
    rcases h with ⟨_, rfl, rfl⟩ | ⟨hn, _⟩
    · exact ⟨em, by rw [if_neg (by decide)]⟩
    · exfalso
      apply hn
      right
      unfold sumL
      rw [em]
      exact Int.le_refl _

/-! ### the level at other numbers -/
theorem Val.scale {cap : Bool} {total : Int} {ls : List Pr} {r w t b : Int} (h : Val cap total ls r w) (hb : 0 < b) (ht : 0 ≤ t) (e : r * b = t * w) : Val cap total ls t b := by
  have hw := h.b0
  have hs := free_same (cap := cap) hw hb e
  refine ⟨hb, ht, ?_, ?_⟩
  · have h1 : (ls.map fun x => val cap t b x * w).sum = (ls.map fun x => val cap r w x * b).sum := by
      congr 1
      refine List.map_congr_left fun x _ => ?_
      unfold val
      rw [hs x]
      split
      · rw [Int.mul_assoc, Int.mul_comm x.2, ← Int.mul_assoc, ← e, Int.mul_assoc, Int.mul_comm b, ← Int.mul_assoc]
      · rw [Int.mul_assoc, Int.mul_comm b, ← Int.mul_assoc]
    rw [sum_mulr, sum_mulr, h.sum] at h1
    have h2 : total * w * b = total * b * w := by rw [Int.mul_assoc, Int.mul_comm w, ← Int.mul_assoc]
    rw [h2] at h1
    exact Int.eq_of_mul_eq_mul_right (by omega) h1
  · obtain ⟨x, hx, fx⟩ := h.fr
    exact ⟨x, hx, by rw [← hs x]; exact fx⟩
theorem lims_id {ls : List Pr} (h : ∀ x ∈ ls, 0 < x.2) : lims ls = ls := by
  unfold lims
  conv => rhs; rw [← List.map_id ls]
  refine List.map_congr_left fun x hx => ?_
  unfold lims1
  rw [if_pos (h x hx)]
  rfl
theorem wt_one (ls : List Pr) : ls.map (wt ((1 : Nat) : Int)) = ls := by
  conv => rhs; rw [← List.map_id ls]
  refine List.map_congr_left fun x _ => ?_
  show (x.1, x.2 * 1) = x
  rw [Int.mul_one]
theorem mul_bd {a b A B : Int} (h0 : 0 ≤ a) (h1 : a ≤ A) (h2 : 0 ≤ b) (h3 : b ≤ B) : 0 ≤ a * b ∧ a * b ≤ A * B :=
  ⟨Int.mul_nonneg h0 h2, Int.mul_le_mul h1 h3 h2 (Int.le_trans h0 h1)⟩
def sc (b : Int) (x : Pr) : Pr := (some (lim x * b), x.2)
theorem sc_above {t b : Int} {x : Pr} (hk : x.1 ≠ none) (h0 : 0 < x.2) : above t (sc b x) = free true t b x := by
  obtain ⟨c, w⟩ := x
  cases c with
  | none => exact absurd rfl hk
  | some c =>
    show (decide (0 < w) && decide (w * t < c * b)) = (decide (0 < w) && !decide (c * b ≤ t * w))
    rw [Int.mul_comm w t]
    congr 1
    by_cases h : c * b ≤ t * w
    · rw [decide_eq_true h, decide_eq_false (by omega)]
      rfl
    · rw [decide_eq_false h, decide_eq_true (by omega)]
      rfl
theorem sc_fnd {t b : Int} {x : Pr} (hk : x.1 ≠ none) (h0 : 0 < x.2) : fnd t (sc b x) = val true t b x := by
  unfold val
  rw [← sc_above hk h0]
  show (if x.2 * t < lim x * b then x.2 * t else lim x * b) = if (decide (0 < x.2) && decide (x.2 * t < lim x * b)) = true then t * x.2 else lim x * b
  rw [decide_eq_true h0, Bool.true_and]
  by_cases h : x.2 * t < lim x * b
  · rw [if_pos h, if_pos (decide_eq_true h), Int.mul_comm]
  · rw [if_neg h, if_neg (by rw [decide_eq_false h]; decide)]
theorem sc_sum {total : Int} {ls : List Pr} {t b : Int} (h : Val true total ls t b) (hk : ∀ x ∈ ls, x.1 ≠ none ∧ 0 < x.2) : ((ls.map (sc b)).map (fnd t)).sum = total * b := by
  rw [← h.sum, List.map_map]
  congr 1
  exact List.map_congr_left fun x hx => sc_fnd (hk x hx).1 (hk x hx).2
theorem sc_both {t b : Int} (x : Pr) : fndF t (sc b x) + fnd t (sc b x) = lim x * b + t * x.2 := by
  show (if x.2 * t > lim x * b then x.2 * t else lim x * b) + (if x.2 * t < lim x * b then x.2 * t else lim x * b) = _
  rw [Int.mul_comm t]
  split <;> split <;> omega
theorem sum_add (f g : Pr → Int) : ∀ ls : List Pr, (ls.map fun x => f x + g x).sum = (ls.map f).sum + (ls.map g).sum
  | [] => rfl
  | x :: r => by
    rw [List.map_cons, List.map_cons, List.map_cons, List.sum_cons, List.sum_cons, List.sum_cons, sum_add f g r]
    omega
theorem sc_rest {total : Int} {ls : List Pr} {t b : Int} (h : Val true total ls t b) (hk : ∀ x ∈ ls, x.1 ≠ none ∧ 0 < x.2) : ((ls.map (sc b)).map (fndF t)).sum = (ls.map fun x => lim x * b).sum + (ls.map fun x => t * x.2).sum - total * b := by
  have h1 := sc_sum h hk
  have h2 : (ls.map fun x => fndF t (sc b x) + fnd t (sc b x)).sum = (ls.map fun x => lim x * b + t * x.2).sum := by
    congr 1
    exact List.map_congr_left fun x _ => sc_both x
  rw [sum_add, sum_add] at h2
  rw [List.map_map] at h1 ⊢
  have h3 : ((ls.map (fnd t ∘ sc b)).sum) = (ls.map fun x => fnd t (sc b x)).sum := rfl
  have h4 : ((ls.map (fndF t ∘ sc b)).sum) = (ls.map fun x => fndF t (sc b x)).sum := rfl
  omega
theorem low_le {room W : Int} {t b : Nat} (h : low room W = ((t : Int), (b : Int))) (hr : 0 ≤ room) (hw : 0 < W) : (t : Int) ≤ room ∧ (b : Int) ≤ W := by
  unfold low at h
  have h1 := congrArg Prod.fst h
  have h2 := congrArg Prod.snd h
  simp only at h1 h2
  have a1 := Nat.div_le_self room.toNat (Nat.gcd room.toNat W.toNat)
  have a2 := Nat.div_le_self W.toNat (Nat.gcd room.toNat W.toNat)
  omega

/-! ### parts by a level in lowest terms -/
theorem div_same {room W t b : Int} (hw : 0 < W) (hb : 0 < b) (e : room * b = t * W) (c : Int) : room * c / W = t * c / b := by
  rw [← Int.mul_ediv_mul_of_pos_left (room * c) W hb, ← Int.mul_ediv_mul_of_pos_left (t * c) b hw]
  have h1 : room * c * b = t * c * W := by
    rw [Int.mul_assoc, Int.mul_comm c, ← Int.mul_assoc, e, Int.mul_assoc, Int.mul_comm W, ← Int.mul_assoc]
  rw [h1, Int.mul_comm W b]
theorem runP_same {room W t b : Int} (hw : 0 < W) (hb : 0 < b) (e : room * b = t * W) (f g : Pr → Bool) : ∀ (ls : List Pr) (cum : Int), (∀ x, f x = g x) → runP room W f cum ls = runP t b g cum ls
  | [], _, _ => rfl
  | x :: r, cum, h => by
    unfold runP
    rw [h x, div_same hw hb e, div_same hw hb e, runP_same hw hb e f g r _ h, runP_same hw hb e f g r _ h]
theorem runP_len (t b : Int) (f : Pr → Bool) : ∀ (ls : List Pr) (cum : Int), (runP t b f cum ls).length = ls.length
  | [], _ => rfl
  | x :: r, cum => by
    unfold runP
    split
    · rw [List.length_cons, List.length_cons, runP_len t b f r]
    · rw [List.length_cons, List.length_cons, runP_len t b f r]
theorem runP_at (t b : Int) (f : Pr → Bool) : ∀ (ls : List Pr) (cum : Int) (i : Nat) (x : Pr), ls[i]? = some x → (runP t b f cum ls)[i]? = some (if f x = true then t * (cum + sumW ((ls.take i).filter f) + x.2) / b - t * (cum + sumW ((ls.take i).filter f)) / b else lim x)
  | [], _, _, _, h => by simp at h
  | y :: r, cum, 0, x, h => by
    cases h
    unfold runP
    have z : sumW [] = 0 := rfl
    cases hf : f y with
    | true => simp [hf, z]
    | false => simp [hf]
  | y :: r, cum, i + 1, x, h => by
    rw [List.getElem?_cons_succ] at h
    unfold runP
    cases hf : f y with
    | true =>
      rw [if_pos rfl, List.getElem?_cons_succ, runP_at t b f r _ i x h, List.take_succ_cons, List.filter_cons_of_pos hf]
      have : sumW (y :: (r.take i).filter f) = y.2 + sumW ((r.take i).filter f) := rfl
      rw [this, ← Int.add_assoc]
    | false =>
      rw [if_neg (by decide), List.getElem?_cons_succ, runP_at t b f r _ i x h, List.take_succ_cons, List.filter_cons_of_neg (by rw [hf]; decide)]
theorem sumW_take {ls : List Pr} {f : Pr → Bool} {i : Nat} {x : Pr} (h : ls[i]? = some x) : sumW ((ls.take (i + 1)).filter f) = sumW ((ls.take i).filter f) + (if f x = true then x.2 else 0) := by
  rw [List.take_add_one, h, List.filter_append]
  unfold sumW
  rw [List.map_append, List.sum_append]
  cases hf : f x <;> simp [List.filter_cons, hf]
theorem runP_sum (t b : Int) (f : Pr → Bool) : ∀ (ls : List Pr) (cum : Int), (runP t b f cum ls).sum = t * (cum + sumW (ls.filter f)) / b - t * cum / b + sumL (ls.filter fun x => !f x)
  | [], cum => by
    show (0 : Int) = t * (cum + 0) / b - t * cum / b + 0
    simp
  | x :: r, cum => by
    unfold runP
    cases hf : f x with
    | true =>
      rw [if_pos rfl, List.sum_cons, runP_sum t b f r, List.filter_cons_of_pos hf, List.filter_cons_of_neg (by rw [hf]; decide)]
      have h1 : sumW (x :: r.filter f) = x.2 + sumW (r.filter f) := rfl
      have h2 : cum + (x.2 + sumW (r.filter f)) = cum + x.2 + sumW (r.filter f) := by omega
      rw [h1, h2]
      omega
    | false =>
      rw [if_neg (by decide), List.sum_cons, runP_sum t b f r, List.filter_cons_of_neg (by rw [hf]; decide), List.filter_cons_of_pos (by rw [hf]; rfl)]
      have : sumL (x :: r.filter fun x => !f x) = lim x + sumL (r.filter fun x => !f x) := rfl
      rw [this]
      omega
theorem Fix.sum {cap : Bool} {total : Int} {ls : List Pr} {room W : Int} (h : Fix cap total ls room W) : (runP room W (free cap room W) 0 ls).sum = total := by
  rw [runP_sum, ← h.eW, Int.zero_add, Int.mul_zero, Int.zero_ediv, Int.mul_ediv_cancel _ (by have := h.w0; omega)]
  have e := h.eR
  generalize sumL (ls.filter fun x => !free cap room W x) = z at e ⊢
  omega
theorem part_ge {t b c w l : Int} (hb : 0 < b) (h : l * b ≤ t * w) : l ≤ t * (c + w) / b - t * c / b := by
  have h1 : (t * c + l * b) / b ≤ t * (c + w) / b := Int.ediv_le_ediv hb (by rw [Int.mul_add]; omega)
  rw [Int.add_mul_ediv_right _ _ (by omega)] at h1
  omega
theorem val_max {t b : Int} {x : Pr} (hb : 0 < b) (h0 : 0 ≤ x.2) (hl : 0 ≤ lim x) : val false t b x = if t * x.2 > lim x * b then t * x.2 else lim x * b := by
  unfold val free
  by_cases h : t * x.2 ≤ lim x * b
  · rw [bnd_flo_of h, if_neg (by simp), if_neg (by omega)]
  · have hb2 : bnd false x t b = false := by
      cases e : bnd false x t b with
      | false => rfl
      | true => exact absurd (bnd_flo e) h
    have hx : 0 < x.2 := by
      rcases Int.lt_or_le 0 x.2 with z | z
      · exact z
      · exfalso
        have : x.2 = 0 := by omega
        rw [this, Int.mul_zero] at h
        exact h (Int.mul_nonneg hl (Int.le_of_lt hb))
    rw [hb2, decide_eq_true hx, if_pos (show (true && !false) = true from rfl), if_pos (by omega)]
theorem free_flo {t b : Int} {x : Pr} : free false t b x = (decide (0 < x.2) && decide (lim x * b < t * x.2)) := by
  unfold free
  congr 1
  show (!decide (t * x.2 ≤ lim x * b)) = _
  by_cases h : t * x.2 ≤ lim x * b
  · rw [decide_eq_true h, decide_eq_false (by omega)]
    rfl
  · rw [decide_eq_false h, decide_eq_true (by omega)]
    rfl

/-! ### lists of numbers as data -/
def datI (ns : List Int) : PyData := .list (ns.map PyData.int)
theorem dpI_all {K : PySem.W.Frag} {H : Hp} : ∀ ns : List Int, DpAll K H (ns.map V.int) (ns.map PyData.int)
  | [] => .nil
  | n :: r => .cons (.int n) (dpI_all r)
theorem dp_ints {K : PySem.W.Frag} {H : Hp} {a : Addr} {ns : List Int} (h : SqL K H a (ns.map V.int)) : Dp K H (.ref a) (datI ns) := .lst h (dpI_all ns)
theorem can_ints : ∀ ns : List Int, PyData.canLayAll0 (ns.map PyData.int) = true
  | [] => rfl
  | n :: r => by
    show (true && PyData.canLayAll0 (r.map PyData.int)) = true
    rw [can_ints r]
    rfl
theorem depth_ints : ∀ ns : List Int, PyData.depthAll (ns.map PyData.int) = 0
  | [] => rfl
  | n :: r => by
    show max 0 (PyData.depthAll (r.map PyData.int)) = 0
    rw [depth_ints r]
    rfl
theorem shaped_ints (ns : List Int) : SeqAt.shaped (datI ns) = true := by
  unfold SeqAt.shaped datI
  rw [Bool.and_eq_true]
  refine ⟨can_ints ns, ?_⟩
  show decide (PyData.depthAll (ns.map PyData.int) + 1 ≤ 64) = true
  rw [depth_ints]
  rfl
theorem eqv_datI : ∀ ns ms : List Int, PyData.eqv (datI ns) (datI ms) = decide (ns = ms) := by
  have key : ∀ ns ms : List Int, PyData.eqvAll (ns.map PyData.int) (ms.map PyData.int) = decide (ns = ms) := by
    intro ns
    induction ns with
    | nil =>
      intro ms
      cases ms with
      | nil => rfl
      | cons m r => simp [PyData.eqvAll]
    | cons n r ih =>
      intro ms
      cases ms with
      | nil => simp [PyData.eqvAll]
      | cons m q =>
        show (PyData.eqv (.int n) (.int m) && PyData.eqvAll (r.map PyData.int) (q.map PyData.int)) = _
        rw [ih q]
        show ((n == m) && decide (r = q)) = _
        by_cases h1 : n = m
        · by_cases h2 : r = q
          · simp [h1, h2]
          · simp [h1, h2]
        · simp [h1]
  intro ns ms
  exact key ns ms

/-! ### draws -/
theorem pick {ns : List Int} {r : Int} (h0 : 0 ≤ r) (h1 : r < (ns.length : Int)) (Pm : Int → Prop) (h : ∀ n ∈ ns, Pm n) : ∃ m : Int, atI (ns.map V.int) r = some (.int m) ∧ Pm m := by
  obtain ⟨v, hv, ha⟩ := atI_mem (xs := ns.map V.int) (i := r) h0 (by rw [List.length_map]; exact h1)
  obtain ⟨m, hm, rfl⟩ := List.mem_map.mp hv
  exact ⟨m, ha, h m hm⟩
theorem Off.same {p : Addr} {H H' : Hp} (s : Same H H') : Off p H H' := .of s
theorem Off.back {p D : Addr} {H H' : Hp} (o : Off p H H') (n : H' D = none) (h : D ≠ p) : H D = none := by
  cases e : H D with
  | none => rfl
  | some x =>
    rw [o _ _ e h] at n
    cases n
theorem lcD {β : Type} {J : It} {n : Nat} {G : Hp → Prop} {Y : Nat → Hp → V → Hp → Prop} (w : Walk J n G Y) {te : TE} {vs : List Nat} {σ : L2.St} {H1 : Hp} {D p : Addr} {j : Nat} {Qd : Hp → Prop} (e2 : β → V) (Yv : Nat → V → Prop) (hY : ∀ i H x H', Y i H x H' → H' = H ∧ Yv i x) (R : Nat → β → Prop)
    (hS : Src H1 p) (nD : H1 D = none) (hz : n ≤ 40000) (hG : ∀ H, Off p H1 H → G H)
    (hs : ∀ i x H (A : V → Hp → Prop), i < n → Yv i x → Src H p → Off p H1 H → (∀ z H', R i z → Src H' p → Off p H H' → A (e2 z) H') → wipe ((wipe σ vs).set j (some x)) vs = wipe σ vs ∧ te ((wipe σ vs).set j (some x)) H A)
    (hd : ∀ H (zs : List β), D ≠ p → zs.length = n → (∀ i z, zs[i]? = some z → R i z) → H D = some (.lst (zs.map e2)) → Src H p → Off p H1 H → Qd H) :
    ∃ W : Nat → Nat → Hp → Prop, (∃ m, W 0 m (upd H1 D (.lst []))) ∧ ∀ i m H, W i m H →
      (J.stop i H ∧ Qd H) ∨ (J.go i H ∧ ∃ Nx : Hp → Prop, (∀ H', Nx H' → ∃ m', m' < m ∧ W (i + 1) m' H') ∧ ∀ x H', J.yld i H x H' → gName j x (wipe σ vs) H' fun σ2 H2 => wipe σ2 vs = wipe σ vs ∧ tYes σ2 H2 fun b H3 =>
        if b = true then te σ2 H3 fun y H4 => ∃ acc, H4 D = some (.lst acc) ∧ acc.length < sizeLine ∧ Nx (upd H4 D (.lst (acc ++ [y]))) else Nx H3) := by
  have hDp := hS.ne_new nD
  refine lc_it w (fun i H => ∃ zs : List β, zs.length = i ∧ (∀ i z, zs[i]? = some z → R i z) ∧ H D = some (.lst (zs.map e2)) ∧ Src H p ∧ Off p H1 H) ⟨[], rfl, fun i z h => by simp at h, upd_same, hS.keep nD, off_new nD⟩ (fun i H _ h => by obtain ⟨_, _, _, _, _, o⟩ := h; exact hG H o) ?_ ?_
  · rintro i x H H' hi ⟨zs, hl, hR, eD, sH, o⟩ hy
    obtain ⟨rfl, yv⟩ := hY i H x H' hy
    obtain ⟨h1, h2⟩ := hs i x H' (fun y H4 => ∃ acc, H4 D = some (.lst acc) ∧ acc.length < sizeLine ∧ ∃ zs : List β, zs.length = i + 1 ∧ (∀ i z, zs[i]? = some z → R i z) ∧ (upd H4 D (.lst (acc ++ [y]))) D = some (.lst (zs.map e2)) ∧ Src (upd H4 D (.lst (acc ++ [y]))) p ∧ Off p H1 (upd H4 D (.lst (acc ++ [y])))) hi yv sH o (fun z H4 rz s4 o4 => by
      refine ⟨_, o4 _ _ eD hDp, ?_, zs ++ [z], ?_, ?_, ?_, ?_, ?_⟩
      · rw [List.length_map, hl]
        exact big (by omega)
      · rw [List.length_append, hl]
        rfl
      · intro k y hk
        rcases Nat.lt_or_ge k zs.length with hlt | hge
        · rw [List.getElem?_append_left hlt] at hk
          exact hR k y hk
        · rw [List.getElem?_append_right hge] at hk
          have hk0 : k - zs.length = 0 := by
            have := (List.getElem?_eq_some_iff.mp hk).1
            simp at this
            omega
          rw [hk0] at hk
          cases hk
          have : k = i := by omega
          rw [this]
          exact rz
      · rw [upd_same, List.map_append]
        rfl
      · obtain ⟨a, b, c, e⟩ := s4
        exact ⟨a, b, c, by rw [upd_ne hDp.symm]; exact e⟩
      · intro b x hb hne
        rw [upd_ne (ne_of_none hb nD)]
        exact o4 _ _ (o _ _ hb hne) hne)
    exact ⟨h1, yes_if h2⟩
  · rintro H ⟨zs, hl, hR, eD, sH, o⟩
    exact hd H zs hDp hl hR eD sH o
/-! ### levels and lists as data -/
def dLv : Option (Int × Int) → PyData
  | none => .none
  | some (a, b) => .tuple [.int a, .int b]
def datT (lv : Option (Int × Int)) (ps : List Int) : PyData := .tuple [dLv lv, datI ps]
theorem dp_lv {K : PySem.W.Frag} {H : Hp} {v : V} {lv : Option (Int × Int)} (h : LvAt H v lv) : Dp K H v (dLv lv) := by
  cases lv with
  | none =>
    rw [show v = .non from h]
    exact .non
  | some ab =>
    obtain ⟨a, b⟩ := ab
    obtain ⟨q, rfl, e⟩ := h
    exact .tup (.of e) (.cons (.int a) (.cons (.int b) .nil))
theorem dp_T {K : PySem.W.Frag} {H : Hp} {t p : Addr} {lvv : V} {lv : Option (Int × Int)} {ps : List Int} (et : H t = some (.tup [lvv, .ref p])) (h : LvAt H lvv lv) (ep : H p = some (.lst (ps.map V.int))) : Dp K H (.ref t) (datT lv ps) :=
  .tup (.of et) (.cons (dp_lv h) (.cons (dp_ints (.of ep)) .nil))
theorem shaped_T (lv : Option (Int × Int)) (ps : List Int) : SeqAt.shaped (datT lv ps) = true := by
  unfold SeqAt.shaped datT
  rw [Bool.and_eq_true]
  constructor
  · show (PyData.canLay0 (dLv lv) && (PyData.canLay0 (datI ps) && true)) = true
    have h1 : PyData.canLay0 (dLv lv) = true := by
      cases lv with
      | none => rfl
      | some ab => rfl
    have h2 : PyData.canLay0 (datI ps) = true := can_ints ps
    rw [h1, h2]
    rfl
  · have h2 : PyData.depth (datI ps) = 1 := by
      show PyData.depthAll (ps.map PyData.int) + 1 = 1
      rw [depth_ints]
    cases lv with
    | none =>
      show decide (max 0 (max (PyData.depth (datI ps)) 0) + 1 ≤ 64) = true
      rw [h2]
      rfl
    | some ab =>
      show decide (max 1 (max (PyData.depth (datI ps)) 0) + 1 ≤ 64) = true
      rw [h2]
      rfl
theorem eqv_T (lv lv' : Option (Int × Int)) (ps ps' : List Int) : PyData.eqv (datT lv ps) (datT lv' ps') = decide (lv = lv' ∧ ps = ps') := by
  have h1 : PyData.eqv (dLv lv) (dLv lv') = decide (lv = lv') := by
    cases lv with
    | none =>
      cases lv' with
      | none => rfl
      | some ab => rfl
    | some ab =>
      cases lv' with
      | none => rfl
      | some cd =>
        obtain ⟨a, b⟩ := ab
        obtain ⟨c, d⟩ := cd
        show ((a == c) && ((b == d) && true)) = _
        by_cases e1 : a = c
        · by_cases e2 : b = d
          · simp [e1, e2]
          · simp [e1, e2]
        · simp [e1]
  show (PyData.eqv (dLv lv) (dLv lv') && (PyData.eqv (datI ps) (datI ps') && true)) = _
  rw [h1, eqv_datI]
  by_cases e1 : lv = lv'
  · by_cases e2 : ps = ps'
    · simp [e1, e2]
    · simp [e1, e2]
  · simp [e1]
theorem lvSame {H H' : Hp} {v : V} {lv : Option (Int × Int)} (s : Same H H') (h : LvAt H v lv) : LvAt H' v lv := by
  cases lv with
  | none => exact h
  | some ab =>
    obtain ⟨q, e, g⟩ := h
    exact ⟨q, e, s _ _ g⟩
/-- caps as data -/
def datO (os : List (Option Int)) : PyData := .list (os.map fun o => match o with | none => .none | some c => .int c)
theorem dpO_all {K : PySem.W.Frag} {H : Hp} : ∀ os : List (Option Int), DpAll K H (os.map ov) (os.map fun o => match o with | none => .none | some c => .int c)
  | [] => .nil
  | none :: r => .cons .non (dpO_all r)
  | some c :: r => .cons (.int c) (dpO_all r)
theorem dp_O {K : PySem.W.Frag} {H : Hp} {a : Addr} {os : List (Option Int)} (h : H a = some (.lst (os.map ov))) : Dp K H (.ref a) (datO os) := .lst (.of h) (dpO_all os)
theorem can_O : ∀ os : List (Option Int), PyData.canLayAll0 (os.map fun o => match o with | none => PyData.none | some c => .int c) = true
  | [] => rfl
  | none :: r => by
    show (true && _) = true
    rw [Bool.true_and]
    exact can_O r
  | some c :: r => by
    show (true && _) = true
    rw [Bool.true_and]
    exact can_O r
theorem depth_O : ∀ os : List (Option Int), PyData.depthAll (os.map fun o => match o with | none => PyData.none | some c => .int c) = 0
  | [] => rfl
  | none :: r => by
    show max 0 _ = 0
    rw [depth_O r]
    rfl
  | some c :: r => by
    show max 0 _ = 0
    rw [depth_O r]
    rfl
theorem shaped_O (os : List (Option Int)) : SeqAt.shaped (datO os) = true := by
  unfold SeqAt.shaped datO
  rw [Bool.and_eq_true]
  refine ⟨can_O os, ?_⟩
  show decide (PyData.depthAll _ + 1 ≤ 64) = true
  rw [depth_O]
  rfl
theorem eqv_O_nil (os : List (Option Int)) : PyData.eqv (datO os) (datI []) = decide (os = []) := by
  cases os with
  | nil => rfl
  | cons o r => cases o <;> rfl

/-! ### the last of a list -/
theorem at_last {ns : List Int} (h : ns ≠ []) : ∃ m ∈ ns, atI (ns.map V.int) (-1) = some (.int m) := by
  have hl : 0 < ns.length := List.length_pos_iff.mpr h
  refine ⟨ns[ns.length - 1], List.getElem_mem _, ?_⟩
  unfold atI ixN
  rw [List.length_map, if_neg (by decide), if_pos (by omega), show (-1 + (ns.length : Int)).toNat = ns.length - 1 by omega]
  show (ns.map V.int)[ns.length - 1]? = _
  rw [List.getElem?_map, List.getElem?_eq_getElem (by omega)]
  rfl

/-! ### lists made of lists -/
theorem fm_zip_at {α β γ δ : Type} (f : α → β) (g : α → γ) (F : β → γ → Option δ) : ∀ l : List α, (((l.map f).zip (l.map g)).filterMap fun p => F p.1 p.2) = l.filterMap fun x => F (f x) (g x)
  | [] => rfl
  | x :: r => by
    rw [List.map_cons, List.map_cons, List.zip_cons_cons, List.filterMap_cons, List.filterMap_cons, fm_zip_at f g F r]
theorem fm_opt {α β : Type} (p : α → Bool) (f : α → β) : ∀ l : List α, (l.filterMap fun x => if p x = true then some (f x) else none) = (l.filter p).map f
  | [] => rfl
  | x :: r => by
    rw [List.filterMap_cons, fm_opt p f r, List.filter_cons]
    cases p x <;> rfl
theorem filter_nil_any {α : Type} (p : α → Bool) : ∀ l : List α, (l.filter p = []) ↔ l.any p = false := fun l => by
  rw [List.filter_eq_nil_iff, List.any_eq_false]
theorem rep_flat (n : Nat) (v : V) : (List.replicate n [v]).flatten = List.replicate n v := by
  induction n with
  | zero => rfl
  | succ n ih =>
    rw [List.replicate_succ, List.flatten_cons, ih]
    rfl

theorem zip_fst_map {α β γ : Type} (f : α → γ) : ∀ (as : List α) (bs : List β), as.length = bs.length → ((as.zip bs).map fun x => f x.1) = as.map f
  | [], [], _ => rfl
  | a :: r, b :: q, h => by
    rw [List.zip_cons_cons, List.map_cons, List.map_cons, zip_fst_map f r q (by simpa using h)]
theorem zip_snd_map {α β γ : Type} (f : β → γ) : ∀ (as : List α) (bs : List β), as.length = bs.length → ((as.zip bs).map fun x => f x.2) = bs.map f
  | [], [], _ => rfl
  | a :: r, b :: q, h => by
    rw [List.zip_cons_cons, List.map_cons, List.map_cons, zip_snd_map f r q (by simpa using h)]

/-! ### dealt and levelled at once; totals that rise -/
def lsOf : Bool → List Pr → List Pr
  | true, ps => lims ps
  | false, ps => ps
def noLev : Bool → Int → List Pr → Prop
  | true, total, ps => allCapped total ps
  | false, total, ps => sumW ps = 0 ∨ total ≤ sumL ps
def Res (c : Bool) (total : Int) (ps : List Pr) (lv : Option (Int × Int)) (parts : List Int) : Prop :=
  (noLev c total ps ∧ lv = none ∧ parts = (lsOf c ps).map lim) ∨ (¬ noLev c total ps ∧ ∃ room W, Fix c total (lsOf c ps) room W ∧ lv = some (low room W) ∧ parts = runP room W (free c room W) 0 (lsOf c ps))
theorem Fix.unique {cap : Bool} {total : Int} {ls : List Pr} {r1 w1 r2 w2 : Int} (h1 : Fix cap total ls r1 w1) (h2 : Fix cap total ls r2 w2) : r1 = r2 ∧ w1 = w2 := by
  have e := h1.val.unique h2.val
  have ef : ∀ x, free cap r1 w1 x = free cap r2 w2 x := free_same h1.w0 h2.w0 e
  have a1 := h1.eW
  have a2 := h2.eW
  have b1 := h1.eR
  have b2 := h2.eR
  rw [List.filter_congr (fun x _ => ef x), ← a2] at a1
  rw [List.filter_congr (fun x _ => by rw [ef x] : ∀ x ∈ ls, (!free cap r1 w1 x) = (!free cap r2 w2 x)), ← b2] at b1
  exact ⟨b1, a1⟩
theorem Res.unique {c : Bool} {total : Int} {ps : List Pr} {lv lv' : Option (Int × Int)} {parts parts' : List Int} (h1 : Res c total ps lv parts) (h2 : Res c total ps lv' parts') : lv = lv' ∧ parts = parts' := by
  rcases h1 with ⟨a1, rfl, rfl⟩ | ⟨a1, r1, w1, f1, rfl, rfl⟩
  · rcases h2 with ⟨a2, rfl, rfl⟩ | ⟨a2, _⟩
    · exact ⟨rfl, rfl⟩
    · exact absurd a1 a2
  · rcases h2 with ⟨a2, rfl, rfl⟩ | ⟨a2, r2, w2, f2, rfl, rfl⟩
    · exact absurd a2 a1
    · obtain ⟨rfl, rfl⟩ := f1.unique f2
      exact ⟨rfl, rfl⟩
theorem val_le {cap : Bool} {r1 w1 r2 w2 : Int} (p1 : 0 < w1) (p2 : 0 < w2) (hlt : r1 * w2 ≤ r2 * w1) (x : Pr) : val cap r1 w1 x * w2 ≤ val cap r2 w2 x * w1 := by
  have c1 : r1 * x.2 * w2 = r1 * w2 * x.2 := by rw [Int.mul_assoc, Int.mul_comm x.2, ← Int.mul_assoc]
  have c2 : r2 * x.2 * w1 = r2 * w1 * x.2 := by rw [Int.mul_assoc, Int.mul_comm x.2, ← Int.mul_assoc]
  have c3 : lim x * w1 * w2 = lim x * w2 * w1 := by rw [Int.mul_assoc, Int.mul_comm w1, ← Int.mul_assoc]
  unfold val
  cases e1 : free cap r1 w1 x with
  | true =>
    obtain ⟨x0, b1⟩ := free_iff.mp e1
    have g1 : r1 * w2 * x.2 ≤ r2 * w1 * x.2 := Int.mul_le_mul_of_nonneg_right hlt (Int.le_of_lt x0)
    cases e2 : free cap r2 w2 x with
    | true =>
      simp only [if_true]
      rw [c1, c2]
      exact g1
    | false =>
      have b2 := not_free_bnd x0 e2
      simp only [if_true, Bool.false_eq_true, if_false]
      cases cap with
      | true =>
        have hk := bnd_cap b2
        have g3 := Int.mul_lt_mul_of_pos_right (not_bnd_cap b1 hk.1) p2
        rw [c3] at g3
        omega
      | false =>
        have g3 := Int.mul_le_mul_of_nonneg_right (bnd_flo b2) (Int.le_of_lt p1)
        rw [c2] at g3
        rw [c1]
        omega
  | false =>
    cases e2 : free cap r2 w2 x with
    | true =>
      obtain ⟨x0, b2⟩ := free_iff.mp e2
      have g1 : r1 * w2 * x.2 ≤ r2 * w1 * x.2 := Int.mul_le_mul_of_nonneg_right hlt (Int.le_of_lt x0)
      have b1 := not_free_bnd x0 e1
      simp only [if_true, Bool.false_eq_true, if_false]
      cases cap with
      | true =>
        have g3 := Int.mul_le_mul_of_nonneg_right (bnd_cap b1).2 (Int.le_of_lt p2)
        rw [c1] at g3
        rw [c2]
        omega
      | false =>
        have g3 := Int.mul_lt_mul_of_pos_right (not_bnd_flo b2) p1
        rw [← c3] at g3
        omega
    | false =>
      simp only [Bool.false_eq_true, if_false]
      rw [c3]
      exact Int.le_refl _
theorem Val.mono {cap : Bool} {T1 T2 : Int} {ls : List Pr} {r1 w1 r2 w2 : Int} (h1 : Val cap T1 ls r1 w1) (h2 : Val cap T2 ls r2 w2) (h : T1 < T2) : r1 * w2 < r2 * w1 := by
  rcases Int.lt_or_le (r1 * w2) (r2 * w1) with z | z
  · exact z
  exfalso
  have hs := sum_le_lt (fun x => val cap r2 w2 x * w1) (fun x => val cap r1 w1 x * w2) ls (fun x _ => val_le h2.b0 h1.b0 z x)
  rw [sum_mulr, sum_mulr, h1.sum, h2.sum, Int.mul_assoc, Int.mul_assoc, Int.mul_comm w1] at hs
  have := Int.le_of_mul_le_mul_right hs (Int.mul_pos h2.b0 h1.b0)
  omega
theorem noLev_up {c : Bool} {T1 T2 : Int} {ps : List Pr} (h : T1 ≤ T2) (hn : noLev c (if c = true then T1 else T2) ps) : noLev c (if c = true then T2 else T1) ps := by
  cases c with
  | true =>
    have h1 : allCapped T1 ps := hn
    exact (⟨h1.1, Int.le_trans h1.2 h⟩ : allCapped T2 ps)
  | false =>
    have h1 : sumW ps = 0 ∨ T2 ≤ sumL ps := hn
    exact (h1.imp id fun z => Int.le_trans h z : sumW ps = 0 ∨ T1 ≤ sumL ps)
theorem lsOf_len (c : Bool) (ps : List Pr) : (lsOf c ps).length = ps.length := by
  cases c with
  | true => exact List.length_map _
  | false => rfl
theorem Res.len {c : Bool} {total : Int} {ps : List Pr} {lv : Option (Int × Int)} {parts : List Int} (h : Res c total ps lv parts) : parts.length = ps.length := by
  rcases h with ⟨_, _, rfl⟩ | ⟨_, room, W, _, _, rfl⟩
  · rw [List.length_map, lsOf_len]
  · rw [runP_len, lsOf_len]
theorem Res.sum {c : Bool} {total : Int} {ps : List Pr} {lv : Option (Int × Int)} {parts : List Int} (h : Res c total ps lv parts) (hl : lv ≠ none) : parts.sum = total := by
  rcases h with ⟨_, rfl, rfl⟩ | ⟨_, room, W, fx, _, rfl⟩
  · exact absurd rfl hl
  · exact fx.sum
theorem lsOf_at {c : Bool} {ps : List Pr} {i : Nat} {x : Pr} (h : ps[i]? = some x) : (lsOf c ps)[i]? = some (if c = true then lims1 x else x) := by
  cases c with
  | true =>
    show (ps.map lims1)[i]? = _
    rw [List.getElem?_map, h]
    rfl
  | false => exact h
theorem part_le {t b c w l : Int} (hb : 0 < b) (h : t * w ≤ l * b) : t * (c + w) / b - t * c / b ≤ l := by
  have h1 : t * (c + w) / b ≤ (t * c + l * b) / b := Int.ediv_le_ediv hb (by rw [Int.mul_add]; omega)
  rw [Int.add_mul_ediv_right _ _ (by omega)] at h1
  omega
/-- no one gets more than its cap, less than its floor -/
theorem Res.bound {c : Bool} {total : Int} {ps : List Pr} {lv : Option (Int × Int)} {parts : List Int} (g : Good ps) (h : Res c total ps lv parts) {i : Nat} {x : Pr} {b got : Int} (hx : ps[i]? = some x) (hb : x.1 = some b) (hg : parts[i]? = some got) : if c = true then got ≤ b else b ≤ got := by
  have hl := lsOf_at (c := c) hx
  have xb : lim x = b := by
    unfold lim
    rw [hb]
    rfl
  have b0 : 0 ≤ b := by
    have := g.l0 x (List.mem_of_getElem? hx)
    omega
  have l1 : lim (lims1 x) = if 0 < x.2 then b else 0 := by
    unfold lims1
    split
    · exact xb
    · rfl
  have l2 : (lims1 x).2 = x.2 := by
    unfold lims1
    split <;> rfl
  rcases h with ⟨_, _, rfl⟩ | ⟨_, room, W, fx, _, rfl⟩
  · rw [List.getElem?_map, hl] at hg
    cases hg
    cases c with
    | true =>
      show lim (lims1 x) ≤ b
      rw [l1]
      split <;> omega
    | false =>
      show b ≤ lim x
      omega
  · rw [runP_at _ _ _ _ 0 i _ hl] at hg
    cases hg
    cases c with
    | true =>
      show (if free true room W (lims1 x) = true then _ else lim (lims1 x)) ≤ b
      split
      · rename_i hf
        obtain ⟨p1, p2⟩ := free_iff.mp hf
        have hk : (lims1 x).1 ≠ none := by
          unfold lims1
          split
          · rw [hb]
            simp
          · simp
        have p3 := not_bnd_cap p2 hk
        have := part_le (c := 0 + sumW (((lsOf true ps).take i).filter (free true room W))) fx.w0 (Int.le_of_lt p3)
        refine Int.le_trans this ?_
        rw [l1]
        split <;> omega
      · rw [l1]
        split <;> omega
    | false =>
      show b ≤ (if free false room W x = true then _ else lim x)
      split
      · rename_i hf
        obtain ⟨p1, p2⟩ := free_iff.mp hf
        have p3 := not_bnd_flo p2
        have := part_ge (c := 0 + sumW (((lsOf false ps).take i).filter (free false room W))) fx.w0 (Int.le_of_lt p3)
        exact Int.le_trans (by omega) this
      · omega
def Stay (c : Bool) (ps : List Pr) (lvF : Option (Int × Int)) (pF : List Int) (lvS : Option (Int × Int)) (pS : List Int) : Prop :=
  (lvF = none → lvS = none ∧ pF = pS) ∧ ∀ t b, lvF = some (t, b) → ∀ (i : Nat) (x : Pr) (bd : Int), ps[i]? = some x → 0 < x.2 → x.1 = some bd → (if c = true then bd * b - t * x.2 ≤ 0 else 0 ≤ bd * b - t * x.2) → pS[i]? = some bd
theorem Res.stay {c : Bool} {T1 T2 : Int} {ps : List Pr} {lv1 lv2 : Option (Int × Int)} {p1 p2 : List Int} (hT : T1 < T2) (h1 : Res c (if c = true then T1 else T2) ps lv1 p1) (h2 : Res c (if c = true then T2 else T1) ps lv2 p2) : Stay c ps lv1 p1 lv2 p2 := by
  refine ⟨fun e => ?_, fun t b e i x bd hx hw hb hh => ?_⟩
  · rcases h1 with ⟨a1, _, rfl⟩ | ⟨_, r1, w1, _, rfl, _⟩
    · have a2 := noLev_up (Int.le_of_lt hT) a1
      rcases h2 with ⟨_, rfl, rfl⟩ | ⟨a3, _⟩
      · exact ⟨rfl, rfl⟩
      · exact absurd a2 a3
    · cases e
  · rcases h1 with ⟨_, rfl, _⟩ | ⟨_, r1, w1, f1, rfl, _⟩
    · cases e
    obtain ⟨t', b', e', _, b0, hrb⟩ := low_pos f1.w0 f1.r0
    rw [e'] at e
    cases e
    have hl := lsOf_at (c := c) hx
    have hy : (if c = true then lims1 x else x) = x := by
      split
      · unfold lims1
        rw [if_pos hw]
      · rfl
    rw [hy] at hl
    have xb : lim x = bd := by
      unfold lim
      rw [hb]
      rfl
    rcases h2 with ⟨_, rfl, rfl⟩ | ⟨_, r2, w2, f2, rfl, rfl⟩
    · rw [List.getElem?_map, hl, ← xb]
      rfl
    rw [runP_at _ _ _ _ 0 i _ hl]
    have bz : (0 : Int) < (b' : Int) := by omega
    have V1 := f1.val.scale bz (by omega) hrb
    have V2 := f2.val
    have w20 := f2.w0
    have nf : free c r2 w2 x = false := by
      unfold free
      have : bnd c x r2 w2 = true := by
        cases c with
        | true =>
          have m := V1.mono V2 hT
          simp only [if_true] at hh
          refine bnd_cap_of (by rw [hb]; simp) ?_
          rw [xb]
          have g1 : bd * (b' : Int) * w2 ≤ (t' : Int) * x.2 * w2 := Int.mul_le_mul_of_nonneg_right (by omega) (by omega)
          have g2 : (t' : Int) * w2 * x.2 ≤ r2 * (b' : Int) * x.2 := Int.mul_le_mul_of_nonneg_right (by omega) (by omega)
          have e1 : (t' : Int) * x.2 * w2 = (t' : Int) * w2 * x.2 := by rw [Int.mul_assoc, Int.mul_comm x.2, ← Int.mul_assoc]
          have e2 : bd * (b' : Int) * w2 = bd * w2 * (b' : Int) := by rw [Int.mul_assoc, Int.mul_comm (b' : Int), ← Int.mul_assoc]
          have e3 : r2 * (b' : Int) * x.2 = r2 * x.2 * (b' : Int) := by rw [Int.mul_assoc, Int.mul_comm (b' : Int), ← Int.mul_assoc]
          exact Int.le_of_mul_le_mul_right (by omega : bd * w2 * (b' : Int) ≤ r2 * x.2 * (b' : Int)) bz
        | false =>
          have m := V2.mono V1 hT
          simp only [Bool.false_eq_true, if_false] at hh
          refine bnd_flo_of ?_
          rw [xb]
          have g1 : (t' : Int) * x.2 * w2 ≤ bd * (b' : Int) * w2 := Int.mul_le_mul_of_nonneg_right (by omega) (by omega)
          have g2 : r2 * (b' : Int) * x.2 ≤ (t' : Int) * w2 * x.2 := Int.mul_le_mul_of_nonneg_right (by omega) (by omega)
          have e1 : (t' : Int) * x.2 * w2 = (t' : Int) * w2 * x.2 := by rw [Int.mul_assoc, Int.mul_comm x.2, ← Int.mul_assoc]
          have e2 : bd * (b' : Int) * w2 = bd * w2 * (b' : Int) := by rw [Int.mul_assoc, Int.mul_comm (b' : Int), ← Int.mul_assoc]
          have e3 : r2 * (b' : Int) * x.2 = r2 * x.2 * (b' : Int) := by rw [Int.mul_assoc, Int.mul_comm (b' : Int), ← Int.mul_assoc]
          exact Int.le_of_mul_le_mul_right (by omega : r2 * x.2 * (b' : Int) ≤ bd * w2 * (b' : Int)) bz
      rw [this]
      simp
    rw [nf, if_neg (by decide), xb]
def Rises (c : Bool) : Option (Int × Int) → Option (Int × Int) → Prop
  | none, o => c = false ∨ o = none
  | some _, none => c = true
  | some (a, b), some (a', b') => a * b' < a' * b
theorem Res.rises {c : Bool} {T1 T2 : Int} {ps : List Pr} {lv1 lv2 : Option (Int × Int)} {p1 p2 : List Int} (hT : T1 < T2) (h1 : Res c T1 ps lv1 p1) (h2 : Res c T2 ps lv2 p2) : Rises c lv1 lv2 := by
  rcases h1 with ⟨a1, rfl, _⟩ | ⟨a1, r1, w1, f1, rfl, _⟩
  · cases c with
    | false => exact .inl rfl
    | true =>
      have a2 : noLev true T2 ps := noLev_up (c := true) (T1 := T1) (T2 := T2) (Int.le_of_lt hT) a1
      rcases h2 with ⟨_, rfl, _⟩ | ⟨a3, _⟩
      · exact .inr rfl
      · exact absurd a2 a3
  · rcases h2 with ⟨a2, rfl, _⟩ | ⟨a2, r2, w2, f2, rfl, _⟩
    · cases c with
      | true => exact rfl
      | false =>
        have a3 : noLev false T1 ps := noLev_up (c := false) (T1 := T1) (T2 := T2) (Int.le_of_lt hT) a2
        exact absurd a3 a1
    · obtain ⟨t1, b1, e1, _, z1, h1⟩ := low_pos f1.w0 f1.r0
      obtain ⟨t2, b2, e2, _, z2, h2⟩ := low_pos f2.w0 f2.r0
      rw [e1, e2]
      exact (f1.val.scale (by omega) (by omega) h1).mono (f2.val.scale (by omega) (by omega) h2) hT
theorem Fix.bounds {cap : Bool} {total : Int} {ps : List Pr} {room W : Int} (g : Good ps) (fx : Fix cap total ps room W) : room ≤ total ∧ W ≤ sumW ps := by
  have h0 := sum_nonneg lim (ps.filter fun x => !free cap room W x) fun x hx => g.l0 x (List.mem_filter.mp hx).1
  have h1 := sum_split1 (fun x : Pr => x.2) (free cap room W) ps
  have h2 := sum_nonneg (fun x : Pr => x.2) (ps.filter fun x => !free cap room W x) fun x hx => g.w0 x (List.mem_filter.mp hx).1
  have e1 := fx.eR
  have e2 := fx.eW
  unfold sumL at e1
  unfold sumW at e2 ⊢
  omega
theorem lims_good {ps : List Pr} (g : Good ps) : Good (lims ps) ∧ sumW (lims ps) = sumW ps := by
  refine ⟨⟨fun y hy => ?_, fun y hy => ?_⟩, ?_⟩
  · obtain ⟨x, hx, rfl⟩ := List.mem_map.mp hy
    have := g.w0 x hx
    unfold lims1
    split <;> exact this
  · obtain ⟨x, hx, rfl⟩ := List.mem_map.mp hy
    have := g.l0 x hx
    unfold lims1
    split
    · exact this
    · exact Int.le_refl 0
  · unfold sumW lims
    rw [List.map_map]
    refine congrArg List.sum (List.map_congr_left fun x _ => ?_)
    show (lims1 x).2 = x.2
    unfold lims1
    split <;> rfl
/-- a level told is small -/
theorem Res.small {c : Bool} {total : Int} {ps : List Pr} {lv : Option (Int × Int)} {parts : List Int} (g : Good ps) (h : Res c total ps lv parts) {t b : Int} (e : lv = some (t, b)) : 0 ≤ t ∧ t ≤ total ∧ 0 < b ∧ b ≤ sumW ps := by
  rcases h with ⟨_, rfl, _⟩ | ⟨_, r, w, fx, rfl, _⟩
  · cases e
  obtain ⟨t1, b1, e1, _, z1, h1⟩ := low_pos fx.w0 fx.r0
  obtain ⟨l1, l2⟩ := low_le e1 fx.r0 fx.w0
  rw [e1] at e
  cases e
  have gl : Good (lsOf c ps) ∧ sumW (lsOf c ps) = sumW ps := by
    cases c with
    | true => exact lims_good g
    | false => exact ⟨g, rfl⟩
  obtain ⟨k1, k2⟩ := fx.bounds gl.1
  rw [gl.2] at k2
  omega

/-! ### this law's defs -/
theorem bl_yes {p : Prop} [Decidable p] (h : p) : V.bl (decide p) = V.bl true := by rw [decide_eq_true h]
theorem bl_no {p : Prop} [Decidable p] (h : ¬ p) : V.bl (decide p) = V.bl false := by rw [decide_eq_false h]
theorem small_of {i : Int} (h : i.natAbs < 2 ^ 200) : small i := Nat.lt_of_lt_of_le h (Nat.pow_le_pow_right (by decide) (by decide))
def kI : Bool → Int
  | true => 0
  | false => 1
theorem kz_t : V.bl (decide (V.int (kI true) = V.int 0)) = V.bl true := bl_yes rfl
theorem kz_f : V.bl (decide (V.int (kI false) = V.int 0)) = V.bl false := bl_no fun z => by have := V.int.inj z; cases this
theorem kI_of {k : Int} (h0 : 0 ≤ k) (h1 : k < 2) : ∃ c, k = kI c := by
  rcases (by omega : k = 0 ∨ k = 1) with h | h
  · exact ⟨true, h⟩
  · exact ⟨false, h⟩
def sel {α : Type} : Bool → α → α → α
  | true, a, _ => a
  | false, _, b => b
theorem at_sel {c : Bool} {x y : V} : atI [x, y] (kI c) = some (sel c x y) := by
  cases c with
  | true => exact atI_nat (j := 0) rfl
  | false => exact atI_nat (j := 1) rfl
structure Told (H : Hp) (t q : Addr) (lv : Option (Int × Int)) (parts : List Int) : Prop where
  ex : ∃ lvv, H t = some (.tup [lvv, .ref q]) ∧ LvAt H lvv lv
  eq : H q = some (.lst (parts.map V.int))
theorem Told.same {H H' : Hp} {t q : Addr} {lv : Option (Int × Int)} {parts : List Int} (s : Same H H') (h : Told H t q lv parts) : Told H' t q lv parts := by
  obtain ⟨⟨lvv, et, el⟩, eq⟩ := h
  exact ⟨⟨lvv, s _ _ et, lvSame s el⟩, s _ _ eq⟩
theorem Told.upd {H : Hp} {t q z : Addr} {zs ys : List V} {lv : Option (Int × Int)} {parts : List Int} (hz : H z = some (.lst zs)) (nz : q ≠ z) (h : Told H t q lv parts) : Told (upd H z (.lst ys)) t q lv parts := by
  obtain ⟨⟨lvv, et, el⟩, eq⟩ := h
  have h1 : t ≠ z := fun e => by
    rw [e, hz] at et
    cases et
  refine ⟨⟨lvv, by rw [upd_ne h1]; exact et, ?_⟩, by rw [upd_ne nz]; exact eq⟩
  cases lv with
  | none => exact el
  | some ab =>
    obtain ⟨l, e, g⟩ := el
    have h2 : l ≠ z := fun e => by
      rw [e, hz] at g
      cases g
    exact ⟨l, e, by rw [upd_ne h2]; exact g⟩
structure CaseAt (H : Hp) (B L : Addr) (c : Bool) (ps : List Pr) : Prop where
  eB : H B = some (.lst (ps.map fun x => ov x.1))
  eL : H L = some (.lst (ps.map fun x => .int x.2))
  kn : c = false → ∀ x ∈ ps, x.1 ≠ none
theorem CaseAt.same {H H' : Hp} {B L : Addr} {c : Bool} {ps : List Pr} (s : Same H H') (h : CaseAt H B L c ps) : CaseAt H' B L c ps := ⟨s _ _ h.eB, s _ _ h.eL, h.kn⟩
def spCase : Sp := fun vs H Q _ => ∃ p : Addr, vs = [.ref p] ∧ Src H p ∧ ∀ (t B L : Addr) (bs ls : List Int) H', B ≠ p → L ≠ p → bs.length = ls.length → bs.length ≤ 30 → (∀ b ∈ bs, 0 ≤ b ∧ b ≤ 1000000000) → (∀ l ∈ ls, 0 ≤ l ∧ l ≤ 1000000) →
  H' t = some (.tup [.ref B, .ref L]) → H' B = some (.lst (bs.map V.int)) → H' L = some (.lst (ls.map V.int)) → Src H' p → Off p H H' → Q (.ref t) H'
def spTotals : Sp := fun vs H Q _ => ∃ (p B : Addr) (bs : List Int), vs = [.ref p, .ref B] ∧ Src H p ∧ B ≠ p ∧ H B = some (.lst (bs.map V.int)) ∧ 0 ≤ bs.sum ∧ bs.sum ≤ 100000000000 ∧
  ∀ (F : Addr) (ts : List Int) H', F ≠ p → ts.Pairwise (· < ·) → ts.length ≤ 3 → (∀ t ∈ ts, 0 ≤ t ∧ t ≤ 1000000000000) → H' F = some (.lst (ts.map V.int)) → Src H' p → Off p H H' → Q (.ref F) H'
def spAsked : Sp := fun vs H Q _ => ∃ (c : Bool) (total : Int) (B L : Addr) (ps : List Pr), vs = [.int (kI c), .int total, .ref B, .ref L] ∧ CaseAt H B L c ps ∧ Fits total ps ∧
  ∀ t q lv parts H', H t = none → H q = none → Res c total ps lv parts → Told H' t q lv parts → Same H H' → Q (.ref t) H'
def spRises : Sp := fun vs H Q _ => ∃ (c : Bool) (v1 v2 : V) (lv1 lv2 : Option (Int × Int)), vs = [.int (kI c), v1, v2] ∧ LvAt H v1 lv1 ∧ LvAt H v2 lv2 ∧ Rises c lv1 lv2 ∧ (∀ t b, lv1 = some (t, b) → 0 ≤ t ∧ t < 2 ^ 60 ∧ 0 ≤ b ∧ b < 2 ^ 60) ∧ (∀ t b, lv2 = some (t, b) → 0 ≤ t ∧ t < 2 ^ 60 ∧ 0 ≤ b ∧ b < 2 ^ 60) ∧ Q (.bl true) H
def spPieces : Sp := fun vs H Q _ => ∃ (c : Bool) (total : Int) (B L t q : Addr) (ps : List Pr) (lv : Option (Int × Int)) (parts : List Int), vs = [.int (kI c), .int total, .ref B, .ref t] ∧ CaseAt H B L c ps ∧ Good ps ∧ Res c total ps lv parts ∧ Told H t q lv parts ∧ ∀ H', Same H H' → Q (.bl true) H'
def spStay : Sp := fun vs H Q _ => ∃ (c : Bool) (B L f s qf qs : Addr) (ps : List Pr) (lvF lvS : Option (Int × Int)) (pF pS : List Int), vs = [.int (kI c), .ref B, .ref L, .ref (sel c f s), .ref (sel c s f)] ∧ CaseAt H B L c ps ∧ Stay c ps lvF pF lvS pS ∧ Told H f qf lvF pF ∧ Told H s qs lvS pS ∧
  (∀ t b, lvF = some (t, b) → 0 ≤ t ∧ t < 2 ^ 60 ∧ 0 ≤ b ∧ b < 2 ^ 60) ∧ ∀ H', Same H H' → Q (.bl true) H'
def spLaw (K : PySem.W.Frag) : Sp := fun vs H Q _ => ∃ (a : Addr) (ns : List Int), vs = [.ref a] ∧ SqL K H a (ns.map V.int) ∧ ns.length ≤ 63 ∧ ∀ H', Q (.bl true) H'
def turnD {α : Type} (_ ws : List α) : List α := match ws with
  | [a, b, c] => [c, b, a]
  | _ => ws
theorem KB_p_dealt : KwB "dealt" s_p_dealt ["total", "caps", "weights"] ["weights", "caps", "total"] turnD := fun _ _ _ _ _ _ ws hl => match ws, hl with | [_, _, _], _ => rfl
theorem RL_p_dealt : ∀ {vs : List V} {us : List Value} {zs : List V} {ws : List Value}, Vals vs us → Vals zs ws → Vals (turnD vs zs) (turnD us ws) := fun _ h => match h with
  | .nil => .nil
  | .cons a .nil => .cons a .nil
  | .cons a (.cons b .nil) => .cons a (.cons b .nil)
  | .cons a (.cons b (.cons c .nil)) => .cons c (.cons b (.cons a .nil))
  | .cons a (.cons b (.cons c (.cons d r))) => .cons a (.cons b (.cons c (.cons d r)))
def turnL {α : Type} (_ ws : List α) : List α := match ws with
  | [a, b, c] => [b, a, c]
  | _ => ws
theorem KB_p_levelled : KwB "levelled" s_p_levelled ["total", "floors", "weights"] ["floors", "total", "weights"] turnL := fun _ _ _ _ _ _ ws hl => match ws, hl with | [_, _, _], _ => rfl
theorem RL_p_levelled : ∀ {vs : List V} {us : List Value} {zs : List V} {ws : List Value}, Vals vs us → Vals zs ws → Vals (turnL vs zs) (turnL us ws) := fun _ h => match h with
  | .nil => .nil
  | .cons a .nil => .cons a .nil
  | .cons a (.cons b .nil) => .cons a (.cons b .nil)
  | .cons a (.cons b (.cons c .nil)) => .cons b (.cons a (.cons c .nil))
  | .cons a (.cons b (.cons c (.cons d r))) => .cons a (.cons b (.cons c (.cons d r)))
theorem at_last1 (pre : List Int) (l : Int) : atI ((pre ++ [l]).map V.int) (-1) = some (.int l) := by
  unfold atI ixN
  rw [List.length_map, List.length_append, List.length_singleton, if_neg (by decide), if_pos (by omega), show (-1 + ((pre.length + 1 : Nat) : Int)).toNat = pre.length by omega]
  show ((pre ++ [l]).map V.int)[pre.length]? = _
  rw [List.getElem?_map, List.getElem?_append_right (Nat.le_refl _), Nat.sub_self]
  rfl
section
variable {P : Program} {w : World} {K : PySem.W.Frag} {mg : Str → Option Value} {base : Heap}
theorem ok_case (T : Txt K mg) : Ok P w K mg base CX0 "_law_case" s_case 3 ["_law_source_here"] spCase := by
  have O_next := ok_next (P := P) (w := w) (base := base) T
  refine T.h_case.ok sc_case (fun vs H Q E h => ?_) (fun f cdv A outer s H vs Q E hr h => ?_)
  · obtain ⟨p, rfl, _⟩ := h; rfl
  obtain ⟨p, rfl, hs, q⟩ := h
  refine ⟨_, (pss_cons (ps_set (i := 1) sc_case.nd rfl (by first | exact Or.inl rfl | exact Or.inr rfl) (pe_op op_add pe_int (callO O_next (hr.mono (by decide)) (by rfl) (pa_cons (pv 0) (pa_cons (pe_ix ix_list (pe_lst (pa_cons pe_int (pa_cons pe_int (pa_cons pe_int pa_nil)))) (callO O_next (hr.mono (by decide)) (by rfl) (pa_cons (pv 0) (pa_cons pe_int pa_nil))) (fun _ _ => rfl)) pa_nil)))))
      (pss_cons (ps_set (i := 2) sc_case.nd rfl (by first | exact Or.inl rfl | exact Or.inr rfl) (pe_ix ix_list (pe_lst (pa_cons pe_int (pa_cons pe_int (pa_cons (pe_op op_pow pe_int pe_int) pa_nil)))) (callO O_next (hr.mono (by decide)) (by rfl) (pa_cons (pv 0) (pa_cons pe_int pa_nil))) (fun _ _ => rfl)))
      (pss_cons (ps_setLc (i := 3) (own := [("_law_k", 4)]) (by rfl) sc_case.nd rfl rfl (sw_true rfl rfl rfl (by decide +kernel)) (pi_range1 (by rfl) T.m_range (pa_cons (pv 1) pa_nil)) (blkOk_by (own := [("_law_k", 4)]) (N := n_case) (sc := defScope s_case) (by decide +kernel)) (fun _ _ _ _ _ => (pg_name (i := 4) sc_case.nd rfl (by first | exact Or.inl rfl | exact Or.inr rfl))) (fun _ _ _ _ _ => pts_nil) (fun _ _ _ _ _ => (callO O_next (hr.mono (by decide)) (by rfl) (pa_cons (pv 0) (pa_cons (pv 2) pa_nil)))))
      (pss_cons (ps_set (i := 2) sc_case.nd rfl (by first | exact Or.inl rfl | exact Or.inr rfl) (pe_ix ix_list (pe_lst (pa_cons pe_int (pa_cons pe_int (pa_cons (pe_op op_pow pe_int pe_int) pa_nil)))) (callO O_next (hr.mono (by decide)) (by rfl) (pa_cons (pv 0) (pa_cons pe_int pa_nil))) (fun _ _ => rfl)))
      (pss_one (ps_ret (pe_tup (pa_cons (pe_lc (own := [("_law_k", 4)]) (by rfl) sc_case.nd (pi_range1 (by rfl) T.m_range (pa_cons (pv 1) pa_nil)) (blkOk_by (own := [("_law_k", 4)]) (N := n_case) (sc := defScope s_case) (by decide +kernel)) (fun _ _ _ _ _ => (pg_name (i := 4) sc_case.nd rfl (by first | exact Or.inl rfl | exact Or.inr rfl))) (fun _ _ _ _ _ => pts_nil) (fun _ _ _ _ _ => (callO O_next (hr.mono (by decide)) (by rfl) (pa_cons (pv 0) (pa_cons (pv 2) pa_nil))))) (pa_cons (pv 3) pa_nil))))))))), ?_⟩
  refine ⟨_, rfl, (by show 3 ≤ sizeLine; decide), fun l1 n1 => ?_⟩
  refine ⟨_, rfl, p, 3, rfl, by decide, by decide, hs.keep n1, fun r1 H1 a1 b1 s1 o1 => ?_⟩
  obtain ⟨m, ha, hm⟩ := pick (ns := [4, 9, 30]) a1 b1 (fun m => 0 < m ∧ m ≤ 30) (by decide)
  refine ⟨l1, _, _, _, rfl, rfl, .of (o1 _ _ upd_same (hs.ne_new n1)), ha, p, m, rfl, hm.1, by omega, s1, fun many H2 a2 b2 s2 o2 => ⟨_, _, rfl, rfl, ?_⟩⟩
  refine ⟨_, _, rfl, rfl, ⟨by decide, by decide, by decide⟩, (by show 3 ≤ sizeLine; decide), fun l3 n3 => ?_⟩
  refine ⟨_, rfl, p, 3, rfl, by decide, by decide, s2.keep n3, fun r3 H3 a3 b3 s3 o3 => ?_⟩
  obtain ⟨far, ha3, hm3⟩ := pick (ns := [3, 30, 10 ^ (6 : Int).toNat]) a3 b3 (fun m => 0 < m ∧ m ≤ 1000000) (by decide)
  refine ⟨l3, _, _, _, rfl, rfl, .of (o3 _ _ upd_same (s2.ne_new n3)), ha3, ?_⟩
  refine ⟨_, rfl, _, rfl, by omega, by omega, fun L nL => lcD (walk_range (lo := 0) (n := (1 + many).toNat)) (p := p) V.int (fun i x => x = V.int (0 + (i : Int))) (fun _ _ _ _ h => h) (fun _ r => 0 ≤ r ∧ r ≤ 1000000) s3 nL (by omega) (fun _ _ => trivial) ?_ ?_⟩
  · rintro i x H' A' hi rfl sH o kA
    exact ⟨rfl, _, rfl, _, rfl, p, far, rfl, hm3.1, by omega, sH, fun r H'' r0 r1 s'' o'' => kA r H'' ⟨by omega, by omega⟩ s'' o''⟩
  intro H4 ls hLp llen lR eL s4 o4
  refine ⟨_, _, rfl, rfl, ⟨by decide, by decide, by decide⟩, (by show 3 ≤ sizeLine; decide), fun l5 n5 => ?_⟩
  refine ⟨_, rfl, p, 3, rfl, by decide, by decide, s4.keep n5, fun r5 H5 a5 b5 s5 o5 => ?_⟩
  obtain ⟨far5, ha5, hm5⟩ := pick (ns := [9, 3000, 10 ^ (9 : Int).toNat]) a5 b5 (fun m => 0 < m ∧ m ≤ 1000000000) (by decide)
  refine ⟨l5, _, _, _, rfl, rfl, .of (o5 _ _ upd_same (s4.ne_new n5)), ha5, ?_⟩
  refine ⟨_, rfl, _, rfl, by omega, by omega, fun B nB => lcD (walk_range (lo := 0) (n := (1 + many).toNat)) (p := p) V.int (fun i x => x = V.int (0 + (i : Int))) (fun _ _ _ _ h => h) (fun _ r => 0 ≤ r ∧ r ≤ 1000000000) s5 nB (by omega) (fun _ _ => trivial) ?_ ?_⟩
  · rintro i x H' A' hi rfl sH o kA
    exact ⟨rfl, _, rfl, _, rfl, p, far5, rfl, hm5.1, by omega, sH, fun r H'' r0 r1 s'' o'' => kA r H'' ⟨by omega, by omega⟩ s'' o''⟩
  intro H6 bs hBp blen bR eB s6 o6
  refine ⟨_, rfl, (by show 2 ≤ sizeLine; decide), fun t nt => ?_⟩
  have st := same_upd (o := .tup [.ref B, .ref L]) nt
  have o45 : Off p H4 H6 := ((off_new n5).trans o5).trans o6
  refine q t B L bs ls _ hBp hLp (by omega) (by omega) (fun b hb => ?_) (fun l hl => ?_) upd_same (st _ _ eB) (st _ _ (o45 _ _ eL hLp)) (s6.keep nt) ?_
  · obtain ⟨i, hi⟩ := List.getElem?_of_mem hb
    exact bR i b hi
  · obtain ⟨i, hi⟩ := List.getElem?_of_mem hl
    exact lR i l hi
  · exact (((((off_new n1).trans o1).trans o2).trans ((off_new n3).trans o3)).trans o4).trans (o45.trans (off_new nt))
theorem ok_totals (T : Txt K mg) : Ok P w K mg base CX0 "_law_totals" s_totals 3 ["_law_source_here", "_law_bounds"] spTotals := by
  have O_next := ok_next (P := P) (w := w) (base := base) T
  refine T.h_totals.ok sc_totals (fun vs H Q E h => ?_) (fun f cdv A outer s H vs Q E hr h => ?_)
  · obtain ⟨_, _, _, rfl, _⟩ := h; rfl
  obtain ⟨p, B, bs, rfl, hs, hBp, eB, z0, z1, q⟩ := h
  refine ⟨_, (pss_cons (ps_set (i := 2) sc_totals.nd rfl (by first | exact Or.inl rfl | exact Or.inr rfl) (pe_lst (pa_cons (callO O_next (hr.mono (by decide)) (by rfl) (pa_cons (pv 0) (pa_cons pe_int pa_nil))) (pa_cons (callO O_next (hr.mono (by decide)) (by rfl) (pa_cons (pv 0) (pa_cons (pe_op op_add (pe_callB (cr_sum rfl) (by rfl) T.m_sum (by decide +kernel) (pa_cons (pv 1) pa_nil)) pe_int) pa_nil))) (pa_cons (callO O_next (hr.mono (by decide)) (by rfl) (pa_cons (pv 0) (pa_cons (pe_op op_pow pe_int pe_int) pa_nil))) pa_nil)))))
      (pss_cons (ps_set (i := 3) sc_totals.nd rfl (by first | exact Or.inl rfl | exact Or.inr rfl) (pe_lst (pa_cons (pe_ix ix_list (pv 2) (callO O_next (hr.mono (by decide)) (by rfl) (pa_cons (pv 0) (pa_cons pe_int pa_nil))) (fun _ _ => rfl)) pa_nil)))
      (pss_cons (ps_for PassesOwn.never rfl (pi_range1 (by rfl) T.m_range (pa_cons (pe_op op_add pe_int (callO O_next (hr.mono (by decide)) (by rfl) (pa_cons (pv 0) (pa_cons pe_int pa_nil)))) pa_nil)) (pg_name (i := 4) sc_totals.nd rfl (by first | exact Or.inl rfl | exact Or.inr rfl))
      (pss_one (ps_expr (pe_bm PySem.F.plainAttrs_list PySem.F.slot_list_append PySem.F.type_list_append mt_append (pv 3) (pa_cons (pe_op op_add (pe_op op_add (pe_ix ix_list (pv 3) (pe_un un_neg pe_int) (fun _ _ => rfl)) pe_int) (callO O_next (hr.mono (by decide)) (by rfl) (pa_cons (pv 0) (pa_cons (pe_ix ix_list (pe_lst (pa_cons pe_int (pa_cons pe_int (pa_cons (pe_op op_add (pe_callB (cr_sum rfl) (by rfl) T.m_sum (by decide +kernel) (pa_cons (pv 1) pa_nil)) pe_int) (pa_cons (pe_op op_pow pe_int pe_int) pa_nil))))) (callO O_next (hr.mono (by decide)) (by rfl) (pa_cons (pv 0) (pa_cons pe_int pa_nil))) (fun _ _ => rfl)) pa_nil)))) pa_nil)))))
      (pss_one (ps_ret (pv 3)))))), ?_⟩
  refine ⟨_, rfl, p, 9, rfl, by decide, by decide, hs, fun r1 H1 a1 b1 s1 o1 => ?_⟩
  refine ⟨_, rfl, _, rfl, B, bs, rfl, .of (o1 _ _ eB hBp), _, _, rfl, rfl, p, bs.sum + 1, rfl, by omega, by omega, s1, fun r2 H2 a2 b2 s2 o2 => ?_⟩
  refine ⟨_, rfl, _, _, rfl, rfl, ⟨by decide, by decide, by decide⟩, p, _, rfl, by decide, by decide, s2, fun r3 H3 a3 b3 s3 o3 => ?_⟩
  have e9 : (10 ^ (9 : Int).toNat : Int) = 1000000000 := by decide
  refine ⟨(by show 3 ≤ sizeLine; decide), fun S nS => ?_⟩
  refine ⟨_, rfl, _, rfl, p, 3, rfl, by decide, by decide, s3.keep nS, fun r4 H4 a4 b4 s4 o4 => ?_⟩
  obtain ⟨t0, ht0, hb0⟩ := pick (ns := [r1, r2, r3]) a4 b4 (fun m => 0 ≤ m ∧ m ≤ 100000000000) (fun n hn => by
    simp only [List.mem_cons, List.not_mem_nil, or_false] at hn
    rcases hn with rfl | rfl | rfl <;> constructor <;> omega)
  refine ⟨S, _, _, _, rfl, rfl, .of (o4 _ _ upd_same (s3.ne_new nS)), ht0, (by show 1 ≤ sizeLine; decide), fun F nF => ?_⟩
  have hFp := s4.ne_new nF
  refine ⟨_, rfl, p, 2, rfl, by decide, by decide, s4.keep nF, fun r5 H5 a5 b5 s5 o5 => ⟨_, _, rfl, rfl, ?_⟩⟩
  have oH5 : Off p H H5 := (((o1.trans o2).trans o3).trans ((off_new nS).trans o4)).trans ((off_new nF).trans o5)
  refine ⟨1 + r5, rfl, by omega, by omega, for_range (lo := 0) (n := (1 + r5).toNat) (fun i σ H' => ∃ (v4 : Option V) (pre : List Int) (l : Int), σ = [some (.ref p), some (.ref B), some (.ref S), some (.ref F), v4] ∧ H' F = some (.lst ((pre ++ [l]).map V.int)) ∧ pre.length = i ∧ (pre ++ [l]).Pairwise (· < ·) ∧ (∀ t ∈ pre ++ [l], 0 ≤ t ∧ t ≤ l) ∧ l ≤ 100000000000 + (i : Int) * 200000000000 ∧ Src H' p ∧ (∀ b o, H b = some o → b ≠ p → b ≠ F → H' b = some o))
    ⟨none, [], t0, rfl, o5 _ _ upd_same hFp, rfl, by simp, (fun t ht => by simp at ht; omega), by omega, s5, fun b o hb h1 _ => oH5 _ _ hb h1⟩ ?_ ?_⟩
  · rintro i σ H' hi ⟨v4, pre, l, rfl, eF, pl, pw, pb, lb, sH, oH⟩
    have hBF : B ≠ F := fun e => by
      have h1 := o4 _ _ (off_new nS (p := p) _ _ (o3 _ _ (o2 _ _ (o1 _ _ eB hBp) hBp) hBp) hBp) hBp
      rw [e, nF] at h1
      cases h1
    have eB' := oH _ _ eB hBp hBF
    have l0 := (pb l (List.mem_append_right _ List.mem_cons_self)).1
    refine ⟨_, rfl, .inl ⟨rfl, _, .of eF⟩, _, rfl, _, rfl, F, _, _, _, rfl, rfl, .of eF, at_last1 pre l, _, _, rfl, rfl, _, rfl, _, rfl, B, bs, rfl, .of eB', _, _, rfl, rfl, _, _, rfl, rfl, ⟨by decide, by decide, by decide⟩, (by show 4 ≤ sizeLine; decide), fun l6 n6 => ?_⟩
    refine ⟨_, rfl, p, 4, rfl, by decide, by decide, sH.keep n6, fun r6 H6 a6 b6 s6 o6 => ?_⟩
    obtain ⟨m, hm, hmb⟩ := pick (ns := [1, 90, bs.sum + 1, 10 ^ (9 : Int).toNat]) a6 b6 (fun m => 0 < m ∧ m ≤ 100000000001) (fun n hn => by
      simp only [List.mem_cons, List.not_mem_nil, or_false] at hn
      rcases hn with rfl | rfl | rfl | rfl <;> constructor <;> omega)
    refine ⟨l6, _, _, _, rfl, rfl, .of (o6 _ _ upd_same (sH.ne_new n6)), hm, p, m, rfl, hmb.1, by omega, s6, fun r7 H7 a7 b7 s7 o7 => ⟨_, _, rfl, rfl, ?_⟩⟩
    have eF7 := o7 _ _ (o6 _ _ (same_upd n6 _ _ eF) hFp) hFp
    refine ⟨F, _, _, rfl, rfl, eF7, ?_, ?_⟩
    · rw [List.length_map, List.length_append, pl]
      exact big (by simp; omega)
    have hil : i < 2 := by omega
    refine ⟨_, pre ++ [l], l + 1 + r7, rfl, ?_, ?_, ?_, ?_, ?_, ?_, ?_⟩
    · rw [upd_same, List.map_append (l₂ := [l + 1 + r7])]
      rfl
    · rw [List.length_append, pl]
      rfl
    · rw [List.pairwise_append]
      refine ⟨pw, by simp, fun a ha b hb => ?_⟩
      simp only [List.mem_singleton] at hb
      have := (pb a ha).2
      omega
    · intro t ht
      rcases List.mem_append.mp ht with h | h
      · have := pb t h
        omega
      · simp only [List.mem_singleton] at h
        omega
    · rw [Int.natCast_add, Int.add_mul]
      omega
    · obtain ⟨a, b, c, e⟩ := s7
      exact ⟨a, b, c, by rw [upd_ne hFp.symm]; exact e⟩
    · intro b o hb h1 h2
      rw [upd_ne h2]
      exact o7 _ _ (o6 _ _ (same_upd n6 _ _ (oH _ _ hb h1 h2)) h1) h1
  · rintro σ H' ⟨v4, pre, l, rfl, eF, pl, pw, pb, lb, sH, oH⟩
    have hi : ((1 + r5).toNat : Int) ≤ 2 := by omega
    refine ⟨_, rfl, q F (pre ++ [l]) H' hFp pw ?_ ?_ eF sH ?_⟩
    · rw [List.length_append, pl]
      show (1 + r5).toNat + 1 ≤ 3
      omega
    · intro t ht
      have := pb t ht
      omega
    · intro b o hb h1
      refine oH _ _ hb h1 fun e => ?_
      have h3 := o4 _ _ (off_new nS (p := p) _ _ (o3 _ _ (o2 _ _ (o1 _ _ hb h1) h1) h1) h1) h1
      rw [e, nF] at h3
      cases h3
end

def hc : Bool → Int → Bool
  | true, far => decide (far ≤ 0)
  | false, far => decide (0 ≤ far)
section
variable {P : Program} {w : World} {K : PySem.W.Frag} {mg : Str → Option Value} {base : Heap}
theorem ok_asked (T : Txt K mg) : Ok P w K mg base CX0 "_law_asked" s_asked 6 ["_law_kind", "_law_amount", "_law_bounds", "_law_loads"] spAsked := by
  have O_p_dealt := ok_dealt (P := P) (w := w) (base := base) T
  have O_p_levelled := ok_levelled (P := P) (w := w) (base := base) T
  refine T.h_asked.ok sc_asked (fun vs H Q E h => ?_) (fun f cdv A outer s H vs Q E hr h => ?_)
  · obtain ⟨_, _, _, _, _, rfl, _⟩ := h; rfl
  obtain ⟨c, total, B, L, ps, rfl, ca, ft, q⟩ := h
  have n1 := ft.n1
  refine ⟨_, (pss_cons (ps_set (i := 4) sc_asked.nd rfl (by first | exact Or.inl rfl | exact Or.inr rfl) (pe_lst (pa_cons (pe_callTy call_list_of (by rfl) T.m_list (by decide +kernel) (pa_cons (pv 2) pa_nil)) (pa_cons (pe_callTy call_list_of (by rfl) T.m_list (by decide +kernel) (pa_cons (pv 3) pa_nil)) pa_nil))))
      (Evl.pss_cut (ps_if (pt_cmpR op_eq (pv 0) pe_int (nomark _))
      (pss_one (ps_set (i := 5) sc_asked.nd rfl (by first | exact Or.inl rfl | exact Or.inr rfl) (callO O_p_dealt (hr.mono (by decide)) (by rfl) (pa_cons (pv 1) (pa_cons (pe_ix ix_list (pv 4) pe_int (fun _ _ => rfl)) (pa_cons (pe_ix ix_list (pv 4) pe_int (fun _ _ => rfl)) pa_nil))))))
      (pss_one (ps_set (i := 5) sc_asked.nd rfl (by first | exact Or.inl rfl | exact Or.inr rfl) (callO O_p_levelled (hr.mono (by decide)) (by rfl) (pa_cons (pv 1) (pa_cons (pe_ix ix_list (pv 4) pe_int (fun _ _ => rfl)) (pa_cons (pe_ix ix_list (pv 4) pe_int (fun _ _ => rfl)) pa_nil)))))))
      (pss_cons (ps_set (i := 6) sc_asked.nd rfl (by first | exact Or.inl rfl | exact Or.inr rfl) (pe_tup (pa_cons (pe_ix ix_tup (pv 5) pe_int (fun _ _ => rfl)) (pa_cons (pe_callTy call_list_of (by rfl) T.m_list (by decide +kernel) (pa_cons (pe_ix ix_tup (pv 5) pe_int (fun _ _ => rfl)) pa_nil)) pa_nil))))
      (pss_cons (ps_expr (pe_bm0 PySem.F.plainAttrs_list PySem.F.slot_list_clear PySem.F.type_list_clear mt_clear (pe_ix ix_tup (pv 5) pe_int (fun _ _ => rfl))))
      (pss_cons (ps_expr (pe_bm0 PySem.F.plainAttrs_list PySem.F.slot_list_clear PySem.F.type_list_clear mt_clear (pe_ix ix_list (pv 4) pe_int (fun _ _ => rfl))))
      (pss_cons (ps_expr (pe_bm PySem.F.plainAttrs_list PySem.F.slot_list_append PySem.F.type_list_append mt_append (pe_ix ix_list (pv 4) pe_int (fun _ _ => rfl)) (pa_cons pe_int pa_nil)))
      (pss_cons (ps_set (i := 4) sc_asked.nd rfl (by first | exact Or.inl rfl | exact Or.inr rfl) (pe_lst (pa_cons (pe_callTy call_list_of (by rfl) T.m_list (by decide +kernel) (pa_cons (pv 2) pa_nil)) (pa_cons (pe_callTy call_list_of (by rfl) T.m_list (by decide +kernel) (pa_cons (pv 3) pa_nil)) pa_nil))))
      (Evl.pss_cut (ps_if (pt_cmpR op_eq (pv 0) pe_int (nomark _))
      (pss_one (ps_set (i := 7) sc_asked.nd rfl (by first | exact Or.inl rfl | exact Or.inr rfl) (callO_kw O_p_dealt KB_p_dealt RL_p_dealt (hr.mono (by decide)) (by rfl) (pk_cons (pe_ix ix_list (pv 4) pe_int (fun _ _ => rfl)) (pk_cons (pe_ix ix_list (pv 4) pe_int (fun _ _ => rfl)) (pk_cons (pv 1) pk_nil))))))
      (pss_one (ps_set (i := 7) sc_asked.nd rfl (by first | exact Or.inl rfl | exact Or.inr rfl) (callO_kw O_p_levelled KB_p_levelled RL_p_levelled (hr.mono (by decide)) (by rfl) (pk_cons (pe_ix ix_list (pv 4) pe_int (fun _ _ => rfl)) (pk_cons (pv 1) (pk_cons (pe_ix ix_list (pv 4) pe_int (fun _ _ => rfl)) pk_nil)))))))
      (Evl.pss_cut (ps_if (pt_cmpR (op_neD hr.units) (pv 7) (pv 6) (nomark _))
      (pss_one (ps_ret pe_non))
      pss_nil)
      (pss_one (ps_ret (pv 6)))))))))))), ?_⟩
  refine ⟨_, rfl, B, _, rfl, .inl (.of ca.eB), fun c1 nc1 => ⟨_, rfl, L, _, rfl, .inl (.of (same_upd nc1 _ _ ca.eL)), fun c2 nc2 => ⟨(by show 2 ≤ sizeLine; decide), fun hd nhd => ?_⟩⟩⟩
  have sc1 := same_upd (o := .lst (ps.map fun x => ov x.1)) nc1
  have sc2 := same_upd (o := .lst (ps.map fun x => V.int x.2)) nc2
  have sh := same_upd (o := .lst [.ref c1, .ref c2]) nhd
  have n12 : c1 ≠ c2 := ne_of_none upd_same nc2
  have nc2' := sback sc1 nc2
  have e1 : (upd (upd (upd H c1 (.lst (ps.map fun x => ov x.1))) c2 (.lst (ps.map fun x => V.int x.2))) hd (.lst [.ref c1, .ref c2])) c1 = some (.lst (ps.map fun x => ov x.1)) := sh _ _ (sc2 _ _ upd_same)
  have e2 : (upd (upd (upd H c1 (.lst (ps.map fun x => ov x.1))) c2 (.lst (ps.map fun x => V.int x.2))) hd (.lst [.ref c1, .ref c2])) c2 = some (.lst (ps.map fun x => V.int x.2)) := sh _ _ upd_same
  have eh : (upd (upd (upd H c1 (.lst (ps.map fun x => ov x.1))) c2 (.lst (ps.map fun x => V.int x.2))) hd (.lst [.ref c1, .ref c2])) hd = some (.lst [.ref c1, .ref c2]) := upd_same
  have nh1 : hd ≠ c1 := (ne_of_none (sc2 _ _ upd_same) nhd).symm
  have nh2 : hd ≠ c2 := (ne_of_none upd_same nhd).symm
  have s01 := (sc1.trans sc2).trans sh
  generalize (upd (upd (upd H c1 (.lst (ps.map fun x => ov x.1))) c2 (.lst (ps.map fun x => V.int x.2))) hd (.lst [.ref c1, .ref c2])) = H1 at sh e1 e2 eh s01 ⊢
  refine ⟨fun σ H' => ∃ (t p : Addr) (lv : Option (Int × Int)) (parts : List Int), σ = [some (.int (kI c)), some (.int total), some (.ref B), some (.ref L), some (.ref hd), some (.ref t), none, none] ∧ H1 t = none ∧ H1 p = none ∧ Res c total ps lv parts ∧ Told H' t p lv parts ∧ Same H1 H', ?_, ?_⟩
  · cases c with
    | true =>
      refine ⟨_, rfl, rfl, true, kz_t, iteT ?_⟩
      exact ⟨_, rfl, _, rfl, hd, _, _, _, rfl, rfl, .of eh, atI_nat (j := 0) rfl, _, rfl, hd, _, _, _, rfl, rfl, .of eh, atI_nat (j := 1) rfl, total, c1, c2, ps, rfl, e1, e2, ft, fun t p lvv lv parts H' nt np dl et el ep sm => ⟨t, p, lv, parts, rfl, nt, np, dl, ⟨⟨lvv, et, el⟩, ep⟩, sm⟩⟩
    | false =>
      refine ⟨_, rfl, rfl, false, kz_f, iteF ?_⟩
      exact ⟨_, rfl, _, rfl, hd, _, _, _, rfl, rfl, .of eh, atI_nat (j := 0) rfl, _, rfl, hd, _, _, _, rfl, rfl, .of eh, atI_nat (j := 1) rfl, total, c1, c2, ps, rfl, e1, e2, ca.kn rfl, ft, fun t p lvv lv parts H' nt np dl et el ep sm => ⟨t, p, lv, parts, rfl, nt, np, dl, ⟨⟨lvv, et, el⟩, ep⟩, sm⟩⟩
  rintro σ H2 ⟨t, p, lv, parts, rfl, nt, np, rs, td, s12⟩
  obtain ⟨lvv, et, el⟩ := td.ex
  refine ⟨_, rfl, t, _, _, _, rfl, rfl, .of et, atI_nat (j := 0) rfl, _, rfl, t, _, _, _, rfl, rfl, .of et, atI_nat (j := 1) rfl, p, _, rfl, .inl (.of td.eq), fun p2 np2 => ⟨(by show 2 ≤ sizeLine; decide), fun k nk => ?_⟩⟩
  have sp2 := same_upd (o := .lst (parts.map V.int)) np2
  have sk := same_upd (o := .tup [lvv, .ref p2]) nk
  have tk : Told (upd (upd H2 p2 (.lst (parts.map V.int))) k (.tup [lvv, .ref p2])) k p2 lv parts := ⟨⟨lvv, upd_same, lvSame (sp2.trans sk) el⟩, sk _ _ upd_same⟩
  have td3 := td.same (sp2.trans sk)
  have s23 := sp2.trans sk
  have np2H := sback (s01.trans s12) np2
  have nkH := sback (s01.trans s12) (sback sp2 nk)
  have np2p : p2 ≠ p := (ne_of_none td.eq np2).symm
  have np21 : p2 ≠ c1 := (ne_of_none (s12 _ _ e1) np2).symm
  have np22 : p2 ≠ c2 := (ne_of_none (s12 _ _ e2) np2).symm
  generalize upd (upd H2 p2 (.lst (parts.map V.int))) k (.tup [lvv, .ref p2]) = H3 at tk td3 s23 sk ⊢
  have e13 := s23 _ _ (s12 _ _ e1)
  have e23 := s23 _ _ (s12 _ _ e2)
  have eh3 := s23 _ _ (s12 _ _ eh)
  have s03 : Same H H3 := (s01.trans s12).trans s23
  obtain ⟨lvv3, et3, el3⟩ := td3.ex
  have npH : H p = none := sback s01 np
  have n1p : c1 ≠ p := ne_of_none e1 np
  have n2p : c2 ≠ p := ne_of_none e2 np
  have nhp : hd ≠ p := ne_of_none eh np
  -- found[1].clear()
  refine ⟨_, rfl, t, _, _, _, rfl, rfl, .of et3, atI_nat (j := 1) rfl, .inl ⟨rfl, _, .of td3.eq⟩, p, _, rfl, rfl, td3.eq, ?_⟩
  have tk4 : Told (upd H3 p (.lst [])) k p2 lv parts := tk.upd td3.eq np2p
  have e14 : (upd H3 p (.lst [])) c1 = some (.lst (ps.map fun x => ov x.1)) := by rw [upd_ne n1p]; exact e13
  have e24 : (upd H3 p (.lst [])) c2 = some (.lst (ps.map fun x => V.int x.2)) := by rw [upd_ne n2p]; exact e23
  have eh4 : (upd H3 p (.lst [])) hd = some (.lst [.ref c1, .ref c2]) := by rw [upd_ne nhp]; exact eh3
  have s04 : Same H (upd H3 p (.lst [])) := same_mut npH s03
  generalize upd H3 p (.lst []) = H4 at tk4 e14 e24 eh4 s04 ⊢
  -- handed[0].clear()
  refine ⟨_, rfl, hd, _, _, _, rfl, rfl, .of eh4, atI_nat (j := 0) rfl, .inl ⟨rfl, _, .of e14⟩, c1, _, rfl, rfl, e14, ?_⟩
  have tk5 : Told (upd H4 c1 (.lst [])) k p2 lv parts := tk4.upd e14 np21
  have e25 : (upd H4 c1 (.lst [])) c2 = some (.lst (ps.map fun x => V.int x.2)) := by rw [upd_ne n12.symm]; exact e24
  have eh5 : (upd H4 c1 (.lst [])) hd = some (.lst [.ref c1, .ref c2]) := by rw [upd_ne nh1]; exact eh4
  have s05 : Same H (upd H4 c1 (.lst [])) := same_mut nc1 s04
  generalize upd H4 c1 (.lst []) = H5 at tk5 e25 eh5 s05 ⊢
  -- handed[1].append(1)
  refine ⟨_, rfl, hd, _, _, _, rfl, rfl, .of eh5, atI_nat (j := 1) rfl, .inl ⟨rfl, _, .of e25⟩, c2, _, _, rfl, rfl, e25, ?_, ?_⟩
  · rw [List.length_map]
    exact big (by omega)
  have tk6 : Told (upd H5 c2 (.lst ((ps.map fun x => V.int x.2) ++ [.int 1]))) k p2 lv parts := tk5.upd e25 np22
  have s06 : Same H (upd H5 c2 (.lst ((ps.map fun x => V.int x.2) ++ [.int 1]))) := same_mut nc2' s05
  generalize upd H5 c2 (.lst ((ps.map fun x => V.int x.2) ++ [.int 1])) = H6 at tk6 s06 ⊢
  have ca6 := ca.same s06
  refine ⟨_, rfl, B, _, rfl, .inl (.of ca6.eB), fun d1 nd1 => ⟨_, rfl, L, _, rfl, .inl (.of (same_upd nd1 _ _ ca6.eL)), fun d2 nd2 => ⟨(by show 2 ≤ sizeLine; decide), fun he nhe => ?_⟩⟩⟩
  have sd1 := same_upd (o := .lst (ps.map fun x => ov x.1)) nd1
  have sd2 := same_upd (o := .lst (ps.map fun x => V.int x.2)) nd2
  have se := same_upd (o := .lst [.ref d1, .ref d2]) nhe
  have f1 : (upd (upd (upd H6 d1 (.lst (ps.map fun x => ov x.1))) d2 (.lst (ps.map fun x => V.int x.2))) he (.lst [.ref d1, .ref d2])) d1 = some (.lst (ps.map fun x => ov x.1)) := se _ _ (sd2 _ _ upd_same)
  have f2 : (upd (upd (upd H6 d1 (.lst (ps.map fun x => ov x.1))) d2 (.lst (ps.map fun x => V.int x.2))) he (.lst [.ref d1, .ref d2])) d2 = some (.lst (ps.map fun x => V.int x.2)) := se _ _ upd_same
  have fh : (upd (upd (upd H6 d1 (.lst (ps.map fun x => ov x.1))) d2 (.lst (ps.map fun x => V.int x.2))) he (.lst [.ref d1, .ref d2])) he = some (.lst [.ref d1, .ref d2]) := upd_same
  have s67 := (sd1.trans sd2).trans se
  generalize (upd (upd (upd H6 d1 (.lst (ps.map fun x => ov x.1))) d2 (.lst (ps.map fun x => V.int x.2))) he (.lst [.ref d1, .ref d2])) = H7 at se f1 f2 fh s67 ⊢
  refine ⟨fun σ H' => ∃ (t2 p3 : Addr) (lv2 : Option (Int × Int)) (parts2 : List Int), σ = [some (.int (kI c)), some (.int total), some (.ref B), some (.ref L), some (.ref he), some (.ref t), some (.ref k), some (.ref t2)] ∧ Res c total ps lv2 parts2 ∧ Told H' t2 p3 lv2 parts2 ∧ Same H7 H', ?_, ?_⟩
  · cases c with
    | true =>
      refine ⟨_, rfl, rfl, true, kz_t, iteT ?_⟩
      exact ⟨_, rfl, he, _, _, _, rfl, rfl, .of fh, atI_nat (j := 1) rfl, _, rfl, he, _, _, _, rfl, rfl, .of fh, atI_nat (j := 0) rfl, _, rfl, rfl, rfl, total, d1, d2, ps, rfl, f1, f2, ft, fun t p lvv lv parts H' nt np dl et el ep sm => ⟨t, p, lv, parts, rfl, dl, ⟨⟨lvv, et, el⟩, ep⟩, sm⟩⟩
    | false =>
      refine ⟨_, rfl, rfl, false, kz_f, iteF ?_⟩
      exact ⟨_, rfl, he, _, _, _, rfl, rfl, .of fh, atI_nat (j := 0) rfl, _, rfl, _, rfl, he, _, _, _, rfl, rfl, .of fh, atI_nat (j := 1) rfl, rfl, rfl, total, d1, d2, ps, rfl, f1, f2, ca.kn rfl, ft, fun t p lvv lv parts H' nt np dl et el ep sm => ⟨t, p, lv, parts, rfl, dl, ⟨⟨lvv, et, el⟩, ep⟩, sm⟩⟩
  rintro σ H8 ⟨t2, p3, lv2, parts2, rfl, rs2, td2, s78⟩
  obtain ⟨rfl, rfl⟩ := rs.unique rs2
  have tk8 := tk6.same (s67.trans s78)
  obtain ⟨w1, x1, x2⟩ := td2.ex
  obtain ⟨w2, y1, y2⟩ := tk8.ex
  refine ⟨fun σ H' => σ = [some (.int (kI c)), some (.int total), some (.ref B), some (.ref L), some (.ref he), some (.ref t), some (.ref k), some (.ref t2)] ∧ H8 = H', ?_, ?_⟩
  · refine ⟨_, rfl, _, rfl, datT lv parts, datT lv parts, dp_T x1 x2 td2.eq, dp_T y1 y2 tk8.eq, shaped_T _ _, shaped_T _ _, false, ?_, iteF ⟨rfl, rfl⟩⟩
    rw [eqv_T, decide_eq_true ⟨rfl, rfl⟩]
    rfl
  rintro σ H9 ⟨rfl, rfl⟩
  exact ⟨_, rfl, q k p2 lv parts _ nkH np2H rs tk8 (s06.trans (s67.trans s78))⟩
theorem ok_rises (T : Txt K mg) : Ok P w K mg base CX0 "_law_rises" s_rises 1 ["_law_kind", "_law_one", "_law_other"] spRises := by
  refine T.h_rises.ok sc_rises (fun vs H Q E h => ?_) (fun f cdv A outer s H vs Q E hr h => ?_)
  · obtain ⟨_, _, _, _, _, rfl, _⟩ := h; rfl
  obtain ⟨c, v1, v2, lv1, lv2, rfl, h1, h2, rs, g1, g2, q⟩ := h
  refine ⟨_, (pss_cons (ps_if (pt_cmpR op_isN (pv 1) pe_non (nomark _))
      (pss_one (ps_ret (pe_or (pe_cmpR op_eq (pv 0) pe_int (nomark _)) (pe_one (pe_cmpR op_isN (pv 2) pe_non (nomark _))))))
      pss_nil)
      (pss_cons (ps_if (pt_cmpR op_isN (pv 2) pe_non (nomark _))
      (pss_one (ps_ret (pe_cmpR op_eq (pv 0) pe_int (nomark _))))
      pss_nil)
      (pss_one (ps_ret (pe_cmpR op_lt (pe_op op_mul (pe_ix ix_tup (pv 1) pe_int (fun _ _ => rfl)) (pe_ix ix_tup (pv 2) pe_int (fun _ _ => rfl))) (pe_op op_mul (pe_ix ix_tup (pv 2) pe_int (fun _ _ => rfl)) (pe_ix ix_tup (pv 1) pe_int (fun _ _ => rfl))) (nomark _)))))), ?_⟩
  cases lv1 with
  | none =>
    rw [show v1 = .non from h1]
    refine ⟨_, rfl, rfl, true, rfl, iteT ?_⟩
    cases c with
    | false => exact ⟨_, rfl, rfl, true, bl_yes rfl, iteT q⟩
    | true =>
      refine ⟨_, rfl, rfl, false, bl_no (fun z => by have := V.int.inj z; cases this), iteF ?_⟩
      have e2 : lv2 = none := rs.resolve_left (by decide)
      subst e2
      rw [show v2 = .non from h2]
      exact ⟨_, rfl, rfl, q⟩
  | some ab =>
    obtain ⟨a, b⟩ := ab
    obtain ⟨l1, rfl, el1⟩ := h1
    refine ⟨_, rfl, rfl, false, rfl, iteF ?_⟩
    cases lv2 with
    | none =>
      rw [show v2 = .non from h2]
      have ec : c = true := rs
      subst ec
      refine ⟨_, rfl, rfl, true, rfl, iteT ⟨_, rfl, rfl, ?_⟩⟩
      show Q (.bl (decide (V.int (kI true) = V.int 0))) H
      rw [kz_t]
      exact q
    | some cd =>
      obtain ⟨a', b'⟩ := cd
      obtain ⟨l2, rfl, el2⟩ := h2
      refine ⟨_, rfl, rfl, false, rfl, iteF ?_⟩
      have k1 := g1 a b rfl
      have k2 := g2 a' b' rfl
      have rs' : a * b' < a' * b := rs
      refine ⟨_, rfl, l1, _, _, _, rfl, rfl, .of el1, atI_nat (j := 0) rfl, _, rfl, l2, _, _, _, rfl, rfl, .of el2, atI_nat (j := 1) rfl, _, _, rfl, rfl, .inl ⟨by omega, by omega⟩, _, rfl, l2, _, _, _, rfl, rfl, .of el2, atI_nat (j := 0) rfl, _, rfl, l1, _, _, _, rfl, rfl, .of el1, atI_nat (j := 1) rfl, _, _, rfl, rfl, .inl ⟨by omega, by omega⟩, _, _, rfl, rfl, ?_⟩
      show Q (.bl (decide (a * b' < a' * b))) H
      rw [decide_eq_true rs']
      exact q
theorem ok_pieces (T : Txt K mg) : Ok P w K mg base CX0 "_law_pieces_right" s_pieces_right 1 ["_law_kind", "_law_amount", "_law_bounds", "_law_found"] spPieces := by
  refine T.h_pieces_right.ok sc_pieces_right (fun vs H Q E h => ?_) (fun f cdv A outer s H vs Q E hr h => ?_)
  · obtain ⟨_, _, _, _, _, _, _, _, _, rfl, _⟩ := h; rfl
  obtain ⟨c, total, B, L, t, p, ps, lv, parts, rfl, ca, good, rs, td, q⟩ := h
  obtain ⟨lvv, et, el⟩ := td.ex
  have hlen := rs.len
  refine ⟨_, (Evl.pss_cut (ps_if (PW.pt (pw_and (pt_cmpR op_notN (pe_ix ix_tup (pv 3) pe_int (fun _ _ => rfl)) pe_non (nomark _)) (pw_and1 (pt_cmpR op_ne (pe_callB (cr_sum rfl) (by rfl) T.m_sum (by decide +kernel) (pa_cons (pe_ix ix_tup (pv 3) pe_int (fun _ _ => rfl)) pa_nil)) (pv 1) (nomark _)))))
      (pss_one (ps_ret pe_bl))
      pss_nil)
      (pss_cons (ps_for PassesOwn.never rfl (pi_zip (by rfl) T.m_zip (pa_cons (pe_ix ix_tup (pv 3) pe_int (fun _ _ => rfl)) (pa_cons (pv 2) pa_nil))) (pg_tup rfl (pgs_cons (pg_name (i := 4) sc_pieces_right.nd rfl (by first | exact Or.inl rfl | exact Or.inr rfl)) (pgs_cons (pg_name (i := 5) sc_pieces_right.nd rfl (by first | exact Or.inl rfl | exact Or.inr rfl)) pgs_nil)))
      (pss_one (ps_if (PW.pt (pw_and (pt_cmpR op_notN (pv 5) pe_non (nomark _)) (pw_and1 (pt_val (pe_ix ix_list (pe_lst (pa_cons (pe_cmpR op_gt (pv 4) (pv 5) (nomark _)) (pa_cons (pe_cmpR op_lt (pv 4) (pv 5) (nomark _)) pa_nil))) (pv 0) (fun _ _ => rfl))))))
      (pss_one (ps_ret pe_bl))
      pss_nil)))
      (pss_one (ps_ret pe_bl)))), ?_⟩
  refine ⟨fun σ H' => σ = [some (.int (kI c)), some (.int total), some (.ref B), some (.ref t), none, none] ∧ H = H', ?_, ?_⟩
  · refine ⟨_, rfl, t, _, _, _, rfl, rfl, .of et, atI_nat (j := 0) rfl, rfl, ?_⟩
    cases hlv : lv with
    | none =>
      rw [hlv] at el
      rw [show lvv = .non from el]
      exact ⟨false, rfl, iteF (iteF ⟨rfl, rfl⟩)⟩
    | some ab =>
      rw [hlv] at el
      obtain ⟨a, b⟩ := ab
      obtain ⟨l, rfl, _⟩ := el
      refine ⟨true, rfl, iteT ⟨_, rfl, t, _, _, _, rfl, rfl, .of et, atI_nat (j := 1) rfl, p, _, rfl, .of td.eq, _, rfl, rfl, false, ?_, iteF ⟨rfl, rfl⟩⟩⟩
      rw [rs.sum (by rw [hlv]; simp), decide_eq_true rfl]
      rfl
  rintro σ H1 ⟨rfl, rfl⟩
  refine ⟨_, rfl, t, _, _, _, rfl, rfl, .of et, atI_nat (j := 1) rfl, _, rfl, p, B, _, _, rfl, .of td.eq, .of ca.eB, for_it (L2.walk_zip (n := ps.length) (xs := parts.map V.int) (ys := ps.map fun x => ov x.1) (by rw [List.length_map, List.length_map, hlen, Nat.min_self])) (fun i σ H' => (∃ v4 v5, σ = [some (.int (kI c)), some (.int total), some (.ref B), some (.ref t), v4, v5]) ∧ Same H H')
    ⟨⟨none, none, rfl⟩, .refl _⟩ (fun i σ H' _ h => ⟨.of (h.2 _ _ td.eq), .of (h.2 _ _ ca.eB)⟩) ?_ ?_⟩
  · rintro i y σ H' H'' hi ⟨⟨v4, v5, rfl⟩, sm⟩ ⟨T1, x, z, rfl, nT, rfl, hx, hy⟩
    have e1 : ps[i]? = some ps[i] := List.getElem?_eq_getElem hi
    obtain ⟨got, rfl, hg⟩ := int_at (show (parts.map V.int)[i]? = some x from hx)
    replace hy : (ps.map fun x => ov x.1)[i]? = some z := hy
    rw [List.getElem?_map, e1] at hy
    have hz : z = ov ps[i].1 := (Option.some.inj hy).symm
    subst hz
    have sT := same_upd (o := .tup [.int got, ov ps[i].1]) nT
    refine ⟨T1, _, rfl, .of upd_same, rfl, _, _, rfl, _, _, rfl, rfl, ?_⟩
    have s2 := sm.trans sT
    generalize upd H' T1 (.tup [.int got, ov ps[i].1]) = H2 at s2 ⊢
    have bd : ∀ b, ps[i].1 = some b → if c = true then got ≤ b else b ≤ got := fun b hb => rs.bound good e1 hb hg
    generalize ps[i].1 = o at bd ⊢
    cases o with
    | none => exact ⟨_, rfl, rfl, false, rfl, iteF (iteF ⟨⟨_, _, rfl⟩, s2⟩)⟩
    | some b =>
      have bb := bd b rfl
      refine ⟨_, rfl, rfl, true, rfl, iteT ⟨_, rfl, _, rfl, _, _, rfl, rfl, _, rfl, _, rfl, _, _, rfl, rfl, (by show 2 ≤ sizeLine; decide), fun l nl => ⟨_, rfl, l, _, _, _, rfl, rfl, .of upd_same, at_sel, false, ?_, iteF ⟨⟨_, _, rfl⟩, s2.trans (same_upd nl)⟩⟩⟩⟩
      cases c with
      | true => exact bl_no (by simp only [if_true] at bb; omega)
      | false => exact bl_no (by simp only [Bool.false_eq_true, if_false] at bb; omega)
  · rintro σ H' ⟨⟨v4, v5, rfl⟩, sm⟩
    exact q _ sm
theorem ok_stay (T : Txt K mg) : Ok P w K mg base CX0 "_law_stay_right" s_stay_right 1 ["_law_kind", "_law_bounds", "_law_loads", "_law_less", "_law_more"] spStay := by
  refine T.h_stay_right.ok sc_stay_right (fun vs H Q E h => ?_) (fun f cdv A outer s H vs Q E hr h => ?_)
  · obtain ⟨_, _, _, _, _, _, _, _, _, _, _, _, rfl, _⟩ := h; rfl
  obtain ⟨c, B, L, f, s, qf, qs, ps, lvF, lvS, pF, pS, rfl, ca, st, tf, ts, gF, q⟩ := h
  refine ⟨_, (pss_cons (ps_asg (pe_ix ix_list (pe_lst (pa_cons (pe_tup (pa_cons (pv 3) (pa_cons (pv 4) pa_nil))) (pa_cons (pe_tup (pa_cons (pv 4) (pa_cons (pv 3) pa_nil))) pa_nil))) (pv 0) (fun _ _ => rfl)) (pg_tup rfl (pgs_cons (pg_name (i := 5) sc_stay_right.nd rfl (by first | exact Or.inl rfl | exact Or.inr rfl)) (pgs_cons (pg_name (i := 6) sc_stay_right.nd rfl (by first | exact Or.inl rfl | exact Or.inr rfl)) pgs_nil))))
      (pss_cons (ps_if (pt_cmpR op_isN (pe_ix ix_tup (pv 5) pe_int (fun _ _ => rfl)) pe_non (nomark _))
      (pss_one (ps_ret (pe_and (pe_cmpR op_isN (pe_ix ix_tup (pv 6) pe_int (fun _ _ => rfl)) pe_non (nomark _)) (pe_one (pe_cmpR (op_eqD hr.units) (pe_ix ix_tup (pv 5) pe_int (fun _ _ => rfl)) (pe_ix ix_tup (pv 6) pe_int (fun _ _ => rfl)) (nomark _))))))
      pss_nil)
      (pss_cons (ps_asg (pe_ix ix_tup (pv 5) pe_int (fun _ _ => rfl)) (pg_unl rfl (pgs_cons (pg_name (i := 7) sc_stay_right.nd rfl (by first | exact Or.inl rfl | exact Or.inr rfl)) (pgs_cons (pg_name (i := 8) sc_stay_right.nd rfl (by first | exact Or.inl rfl | exact Or.inr rfl)) pgs_nil))))
      (pss_cons (ps_for PassesOwn.never rfl (pi_enum (by rfl) T.m_enumerate (pa_cons (pv 1) pa_nil)) (pg_tup rfl (pgs_cons (pg_name (i := 9) sc_stay_right.nd rfl (by first | exact Or.inl rfl | exact Or.inr rfl)) (pgs_cons (pg_name (i := 10) sc_stay_right.nd rfl (by first | exact Or.inl rfl | exact Or.inr rfl)) pgs_nil)))
      (pss_one (ps_if (PW.pt (pw_and (pt_cmpR op_gt (pe_ix ix_list (pv 2) (pv 9) (fun _ _ => rfl)) pe_int (nomark _)) (pw_and1 (pt_cmpR op_notN (pv 10) pe_non (nomark _)))))
      (pss_cons (ps_set (i := 11) sc_stay_right.nd rfl (by first | exact Or.inl rfl | exact Or.inr rfl) (pe_op op_sub (pe_op op_mul (pv 10) (pv 8)) (pe_op op_mul (pv 7) (pe_ix ix_list (pv 2) (pv 9) (fun _ _ => rfl)))))
      (pss_one (ps_if (PW.pt (pw_and (pt_val (pe_ix ix_list (pe_lst (pa_cons (pe_cmpR op_le (pv 11) pe_int (nomark _)) (pa_cons (pe_cmpR op_ge (pv 11) pe_int (nomark _)) pa_nil))) (pv 0) (fun _ _ => rfl))) (pw_and1 (pt_cmpR op_ne (pe_ix ix_list (pe_ix ix_tup (pv 6) pe_int (fun _ _ => rfl)) (pv 9) (fun _ _ => rfl)) (pv 10) (nomark _)))))
      (pss_one (ps_ret pe_bl))
      pss_nil)))
      pss_nil)))
      (pss_one (ps_ret pe_bl)))))), ?_⟩
  refine ⟨_, rfl, _, rfl, (by show 2 ≤ sizeLine; decide), fun u1 nu1 => ⟨_, rfl, _, rfl, (by show 2 ≤ sizeLine; decide), fun u2 nu2 => ⟨(by show 2 ≤ sizeLine; decide), fun l nl => ?_⟩⟩⟩
  have z1 := same_upd (o := .tup [.ref (sel c f s), .ref (sel c s f)]) nu1
  have z2 := same_upd (o := .tup [.ref (sel c s f), .ref (sel c f s)]) nu2
  have z3 := same_upd (o := .lst [.ref u1, .ref u2]) nl
  have eu1 : (upd (upd (upd H u1 (.tup [.ref (sel c f s), .ref (sel c s f)])) u2 (.tup [.ref (sel c s f), .ref (sel c f s)])) l (.lst [.ref u1, .ref u2])) u1 = some (.tup [.ref (sel c f s), .ref (sel c s f)]) := z3 _ _ (z2 _ _ upd_same)
  have eu2 : (upd (upd (upd H u1 (.tup [.ref (sel c f s), .ref (sel c s f)])) u2 (.tup [.ref (sel c s f), .ref (sel c f s)])) l (.lst [.ref u1, .ref u2])) u2 = some (.tup [.ref (sel c s f), .ref (sel c f s)]) := z3 _ _ upd_same
  have elu : (upd (upd (upd H u1 (.tup [.ref (sel c f s), .ref (sel c s f)])) u2 (.tup [.ref (sel c s f), .ref (sel c f s)])) l (.lst [.ref u1, .ref u2])) l = some (.lst [.ref u1, .ref u2]) := upd_same
  have s01 := (z1.trans z2).trans z3
  generalize (upd (upd (upd H u1 (.tup [.ref (sel c f s), .ref (sel c s f)])) u2 (.tup [.ref (sel c s f), .ref (sel c f s)])) l (.lst [.ref u1, .ref u2])) = H1 at z3 eu1 eu2 elu s01 ⊢
  have eu : ∃ u, sel c (V.ref u1) (V.ref u2) = .ref u ∧ H1 u = some (.tup [.ref f, .ref s]) := by
    cases c with
    | true => exact ⟨u1, rfl, eu1⟩
    | false => exact ⟨u2, rfl, eu2⟩
  obtain ⟨u, hu, eu⟩ := eu
  refine ⟨_, rfl, l, _, _, _, rfl, rfl, .of elu, at_sel, ?_⟩
  rw [hu]
  refine ⟨u, _, rfl, .of eu, rfl, _, _, rfl, _, _, rfl, rfl, ?_⟩
  have tf1 := tf.same s01
  have ts1 := ts.same s01
  have ca1 := ca.same s01
  obtain ⟨fv, ef, elf⟩ := tf1.ex
  obtain ⟨sv, es, els⟩ := ts1.ex
  refine ⟨_, rfl, f, _, _, _, rfl, rfl, .of ef, atI_nat (j := 0) rfl, rfl, ?_⟩
  cases hlv : lvF with
  | none =>
    rw [hlv] at elf
    rw [show fv = .non from elf]
    obtain ⟨k1, k2⟩ := st.1 hlv
    rw [k1] at els
    rw [show sv = .non from els] at es
    refine ⟨true, rfl, iteT ⟨_, rfl, s, _, _, _, rfl, rfl, .of es, atI_nat (j := 0) rfl, rfl, true, rfl, iteT ⟨_, rfl, f, _, _, _, rfl, rfl, .of ef, atI_nat (j := 1) rfl, _, rfl, s, _, _, _, rfl, rfl, .of es, atI_nat (j := 1) rfl, datI _, datI _, dp_ints (.of tf1.eq), dp_ints (.of ts1.eq), shaped_ints _, shaped_ints _, ?_⟩⟩⟩
    rw [eqv_datI, decide_eq_true k2]
    exact q _ s01
  | some ab =>
    obtain ⟨t, b⟩ := ab
    rw [hlv] at elf
    obtain ⟨lf, rfl, elf⟩ := elf
    have gg := gF t b hlv
    refine ⟨false, rfl, iteF ?_⟩
    refine ⟨_, rfl, f, _, _, _, rfl, rfl, .of ef, atI_nat (j := 0) rfl, lf, _, rfl, .of elf, rfl, _, _, rfl, _, _, rfl, rfl, ?_⟩
    refine ⟨_, rfl, B, _, rfl, .of ca1.eB, for_it (walk_enum (xs := ps.map fun x => ov x.1)) (fun i σ H' => (∃ v9 v10 v11, σ = [some (.int (kI c)), some (.ref B), some (.ref L), some (.ref (sel c f s)), some (.ref (sel c s f)), some (.ref f), some (.ref s), some (.int t), some (.int b), v9, v10, v11]) ∧ Same H1 H')
      ⟨⟨none, none, none, rfl⟩, .refl _⟩ (fun i σ H' _ h => .of (h.2 _ _ ca1.eB)) ?_ ?_⟩
    · rintro i y σ H' H'' hi ⟨⟨v9, v10, v11, rfl⟩, sm⟩ ⟨T1, x, z, rfl, nT, rfl, hx, hy⟩
      rw [List.length_map] at hi
      have e1 : ps[i]? = some ps[i] := List.getElem?_eq_getElem hi
      replace hy : (ps.map fun x => ov x.1)[i]? = some z := hy
      rw [List.getElem?_map, e1] at hy
      cases hx
      have hz : z = ov ps[i].1 := (Option.some.inj hy).symm
      subst hz
      have sT := same_upd (o := .tup [.int (i : Nat), ov ps[i].1]) nT
      refine ⟨T1, _, rfl, .of upd_same, rfl, _, _, rfl, _, _, rfl, rfl, ?_⟩
      have s2 := sm.trans sT
      generalize upd H' T1 (.tup [.int (i : Nat), ov ps[i].1]) = H2 at s2 ⊢
      have hL : atI (ps.map fun x => V.int x.2) (i : Int) = some (.int ps[i].2) := atI_nat (j := i) (by rw [List.getElem?_map, e1]; rfl)
      have nx : ∀ H', Same H2 H' → ∀ v11 : Option V, (∃ v9 v10 v11', ([some (.int (kI c)), some (.ref B), some (.ref L), some (.ref (sel c f s)), some (.ref (sel c s f)), some (.ref f), some (.ref s), some (.int t), some (.int b), some (.int (i : Nat)), some (ov ps[i].1), v11] : List (Option V)) = [some (.int (kI c)), some (.ref B), some (.ref L), some (.ref (sel c f s)), some (.ref (sel c s f)), some (.ref f), some (.ref s), some (.int t), some (.int b), v9, v10, v11']) ∧ Same H1 H' := fun H' s' v => ⟨⟨_, _, _, rfl⟩, s2.trans s'⟩
      refine ⟨_, rfl, _, rfl, L, _, _, _, rfl, rfl, .of (s2 _ _ ca1.eL), hL, _, _, rfl, rfl, _, rfl, ite2 (fun e => ?_) (fun e => iteF (nx _ (.refl _) _))⟩
      have w0 : 0 < ps[i].2 := of_decide_eq_true e
      have stt : ∀ bd, ps[i].1 = some bd → (if c = true then bd * b - t * ps[i].2 ≤ 0 else 0 ≤ bd * b - t * ps[i].2) → pS[i]? = some bd := fun bd hb hh => st.2 t b hlv i ps[i] bd e1 w0 hb hh
      generalize ps[i].2 = wt at hL stt w0 e ⊢
      generalize ps[i].1 = o at stt nx ⊢
      cases o with
      | none => exact ⟨_, rfl, rfl, false, rfl, iteF (nx _ (.refl _) _)⟩
      | some bd =>
        refine ⟨_, rfl, rfl, true, rfl, iteT ?_⟩
        refine ⟨_, rfl, _, rfl, _, _, rfl, rfl, .inr ⟨by omega, by omega⟩, _, rfl, _, rfl, _, rfl, L, _, _, _, rfl, rfl, .of (s2 _ _ ca1.eL), hL, _, _, rfl, rfl, .inl ⟨by omega, by omega⟩, _, _, rfl, rfl, ?_⟩
        have stb := stt bd rfl
        refine ⟨_, rfl, _, _, rfl, rfl, _, rfl, _, _, rfl, rfl, (by show 2 ≤ sizeLine; decide), fun l3 n3 => ⟨_, rfl, l3, _, _, _, rfl, rfl, .of upd_same, at_sel, ?_⟩⟩
        have s3 := same_upd (o := .lst [.bl (decide (bd * b - t * wt ≤ 0)), .bl (decide (0 ≤ bd * b - t * wt))]) n3
        have hsel : sel c (V.bl (decide (bd * b - t * wt ≤ 0))) (V.bl (decide (0 ≤ bd * b - t * wt))) = .bl (hc c (bd * b - t * wt)) := by
          cases c <;> rfl
        refine ⟨_, hsel, ite2 (fun e2 => ?_) (fun e2 => iteF (nx _ s3 _))⟩
        have hp : pS[i]? = some bd := stb (by
          cases c with
          | true => exact of_decide_eq_true e2
          | false => exact of_decide_eq_true e2)
        refine ⟨_, rfl, s, _, _, _, rfl, rfl, .of (s3 _ _ (s2 _ _ es)), atI_nat (j := 1) rfl, _, rfl, qs, _, _, _, rfl, rfl, .of (s3 _ _ (s2 _ _ ts1.eq)), atI_nat (j := i) (by rw [List.getElem?_map, hp]; rfl), _, rfl, rfl, false, ?_, iteF (nx _ s3 _)⟩
        show V.bl (!decide (V.int bd = V.int bd)) = V.bl false
        rw [decide_eq_true rfl]
        rfl
    · rintro σ H' ⟨⟨v9, v10, v11, rfl⟩, sm⟩
      exact q _ (s01.trans sm)
end

/-! ### parts of lists -/
theorem cut_to {α : Type} (f : α → V) (l : List α) (k : Nat) : cutV (l.map f) none (some (k : Int)) = (l.take k).map f := by
  unfold cutV
  rw [HT.sIx_none, show HT.sIx (l.map f).length (l.map f).length (some (k : Int)) = min k (l.map f).length from HT.sIx_nat _ _ k, List.drop_zero, Nat.sub_zero, ← List.map_take, List.length_map]
  congr 1
  rcases Nat.le_total k l.length with h | h
  · rw [Nat.min_eq_left h]
  · rw [Nat.min_eq_right h, List.take_length, List.take_of_length_le h]
theorem cut_from {α : Type} (f : α → V) (l : List α) (k : Nat) : cutV (l.map f) (some (k : Int)) none = (l.drop k).map f := by
  unfold cutV
  rw [HT.sIx_none, show HT.sIx (l.map f).length 0 (some (k : Int)) = min k (l.map f).length from HT.sIx_nat _ _ k, ← List.map_drop, ← List.map_take, List.length_map]
  congr 1
  rcases Nat.le_total k l.length with h | h
  · rw [Nat.min_eq_left h]
    exact List.take_of_length_le (by rw [List.length_drop]; exact Nat.le_refl _)
  · rw [Nat.min_eq_right h, List.drop_length, List.drop_eq_nil_of_le h]
    simp

theorem units65 {k : Nat} {A : Around} (r : Room k A) : A.units + 65 < cLine := by
  have := r.un
  omega
structure Tl where
  t : Addr
  q : Addr
  lv : Option (Int × Int)
  parts : List Int
structure TlAt (H : Hp) (D : Addr) (c : Bool) (ps : List Pr) (total : Int) (r : Tl) : Prop where
  res : Res c total ps r.lv r.parts
  td : Told H r.t r.q r.lv r.parts
  ne : r.q ≠ D
def dTl (r : Tl) : PyData := datT r.lv r.parts
theorem dpTl_all {K : PySem.W.Frag} {H : Hp} : ∀ rs : List Tl, (∀ r ∈ rs, Told H r.t r.q r.lv r.parts) → DpAll K H (rs.map fun r => V.ref r.t) (rs.map dTl)
  | [], _ => .nil
  | r :: l, h => by
    obtain ⟨⟨lvv, et, el⟩, eq⟩ := h r List.mem_cons_self
    exact .cons (dp_T et el eq) (dpTl_all l fun x hx => h x (List.mem_cons_of_mem _ hx))
theorem depth_T (lv : Option (Int × Int)) (ps : List Int) : PyData.depth (datT lv ps) = 2 := by
  have h2 : PyData.depth (datI ps) = 1 := by
    show PyData.depthAll (ps.map PyData.int) + 1 = 1
    rw [depth_ints]
  cases lv with
  | none =>
    show max 0 (max (PyData.depth (datI ps)) 0) + 1 = 2
    rw [h2]
    rfl
  | some ab =>
    show max 1 (max (PyData.depth (datI ps)) 0) + 1 = 2
    rw [h2]
    rfl
theorem can_Tl : ∀ rs : List Tl, PyData.canLayAll0 (rs.map dTl) = true
  | [] => rfl
  | r :: l => by
    have h := shaped_T r.lv r.parts
    unfold SeqAt.shaped at h
    rw [Bool.and_eq_true] at h
    show (PyData.canLay0 (dTl r) && PyData.canLayAll0 (l.map dTl)) = true
    rw [can_Tl l, show PyData.canLay0 (dTl r) = true from h.1]
    rfl
theorem depth_Tl : ∀ rs : List Tl, PyData.depthAll (rs.map dTl) ≤ 2
  | [] => Nat.zero_le _
  | r :: l => by
    show max (PyData.depth (dTl r)) (PyData.depthAll (l.map dTl)) ≤ 2
    have := depth_Tl l
    rw [show PyData.depth (dTl r) = 2 from depth_T _ _]
    omega
theorem shaped_Tl (rs : List Tl) : SeqAt.shaped (.list (rs.map dTl)) = true := by
  unfold SeqAt.shaped
  rw [Bool.and_eq_true]
  refine ⟨can_Tl rs, ?_⟩
  show decide (PyData.depthAll (rs.map dTl) + 1 ≤ 64) = true
  have := depth_Tl rs
  exact decide_eq_true (by omega)
theorem no_none : ∀ rs : List Tl, ((rs.map dTl).any fun z => PyData.eqv z .none) = false
  | [] => rfl
  | r :: l => by
    rw [List.map_cons, List.any_cons, no_none l]
    rfl
section
variable {P : Program} {w : World} {K : PySem.W.Frag} {mg : Str → Option Value} {base : Heap}
theorem ok_law {f : Addr} {fd : FuncData} (F : Fun K "law" "law" s_law f fd) (T : Txt K mg) : FnOk P w K mg base CX0 7 f fd ["_law_script"] (spLaw K) := by
  have O_cell_at := ok_cell_at (P := P) (w := w) (base := base) T
  have O_source := ok_source (P := P) (w := w) (base := base) T
  have O_next := ok_next (P := P) (w := w) (base := base) T
  have O_case := ok_case (P := P) (w := w) (base := base) T
  have O_totals := ok_totals (P := P) (w := w) (base := base) T
  have O_asked := ok_asked (P := P) (w := w) (base := base) T
  have O_rises := ok_rises (P := P) (w := w) (base := base) T
  have O_pieces_right := ok_pieces (P := P) (w := w) (base := base) T
  have O_stay_right := ok_stay (P := P) (w := w) (base := base) T
  refine F.ok sc_law (fun vs H Q E h => ?_) (fun cdv A outer s H vs Q E hr h => ?_)
  · obtain ⟨a, ns, rfl, _⟩ := h; rfl
  obtain ⟨a, ns, rfl, hS, hlen, k⟩ := h
  refine ⟨_, (pss_cons (ps_for PassesOwn.never rfl (pi_list (pe_op op_cat (pe_lst (pa_cons (callO O_cell_at (hr.mono (by decide)) (by rfl) (pa_cons (pv 0) (pa_cons pe_int pa_nil))) pa_nil)) (pe_slice sl_list (pv 0) (po_some pe_int) (po_some pe_int)))) (pg_name (i := 1) sc_law.nd rfl (by first | exact Or.inl rfl | exact Or.inr rfl))
      (pss_cons (ps_set (i := 2) sc_law.nd rfl (by first | exact Or.inl rfl | exact Or.inr rfl) (callO O_source (hr.mono (by decide)) (by rfl) (pa_cons (pv 1) pa_nil)))
      (pss_cons (ps_set (i := 3) sc_law.nd rfl (by first | exact Or.inl rfl | exact Or.inr rfl) (callO O_next (hr.mono (by decide)) (by rfl) (pa_cons (pv 2) (pa_cons pe_int pa_nil))))
      (pss_cons (ps_set (i := 4) sc_law.nd rfl (by first | exact Or.inl rfl | exact Or.inr rfl) (callO O_next (hr.mono (by decide)) (by rfl) (pa_cons (pv 2) (pa_cons pe_int pa_nil))))
      (pss_cons (ps_asg (callO O_case (hr.mono (by decide)) (by rfl) (pa_cons (pv 2) pa_nil)) (pg_tup rfl (pgs_cons (pg_name (i := 5) sc_law.nd rfl (by first | exact Or.inl rfl | exact Or.inr rfl)) (pgs_cons (pg_name (i := 6) sc_law.nd rfl (by first | exact Or.inl rfl | exact Or.inr rfl)) pgs_nil))))
      (pss_cons (ps_set (i := 7) sc_law.nd rfl (by first | exact Or.inl rfl | exact Or.inr rfl) (callO O_totals (hr.mono (by decide)) (by rfl) (pa_cons (pv 2) (pa_cons (pv 5) pa_nil))))
      (Evl.pss_cut (ps_if (PW.pt (pw_and (pt_cmpR op_eq (pv 3) pe_int (nomark _)) (pw_and1 (pt_cmpR op_eq (pv 4) pe_int (nomark _)))))
      (pss_one (ps_set (i := 5) sc_law.nd rfl (by first | exact Or.inl rfl | exact Or.inr rfl) (pe_lc (own := [("_law_bound", 8)]) (te := (tOp (rIxL K) (tLst (tCons (tVar 8) (tCons _ tNil))) (tOp _ (tCall _ _ _ (tCons (tVar 2) (tCons _ tNil))) _))) (by rfl) sc_law.nd (pi_list (pv 5)) (blkOk_by (own := [("_law_bound", 8)]) (N := n_law) (sc := defScope s_law) (by decide +kernel)) (fun _ _ _ _ _ => (pg_name (i := 8) sc_law.nd rfl (by first | exact Or.inl rfl | exact Or.inr rfl))) (fun _ _ _ _ _ => pts_nil) (fun _ _ _ _ _ => (pe_ix ix_list (pe_lst (pa_cons (pv 8) (pa_cons pe_non pa_nil))) (pe_op op_fdiv (callO O_next (hr.mono (by decide)) (by rfl) (pa_cons (pv 2) (pa_cons pe_int pa_nil))) pe_int) (fun _ _ => rfl))))))
      pss_nil)
      (pss_cons (ps_setLc (i := 9) (own := [("_law_amount", 10)]) (by rfl) sc_law.nd rfl rfl (sw_true rfl rfl rfl (by decide +kernel)) (pi_list (pv 7)) (blkOk_by (own := [("_law_amount", 10)]) (N := n_law) (sc := defScope s_law) (by decide +kernel)) (fun _ _ _ _ _ => (pg_name (i := 10) sc_law.nd rfl (by first | exact Or.inl rfl | exact Or.inr rfl))) (fun _ _ _ _ _ => pts_nil) (fun _ _ _ _ _ => (callO O_asked (hr.mono (by decide)) (by rfl) (pa_cons (pv 3) (pa_cons (pv 10) (pa_cons (pv 5) (pa_cons (pv 6) pa_nil)))))))
      (Evl.pss_cut (ps_if (pt_cmpR (op_inD (units65 hr)) pe_non (pv 9) (by rfl))
      (pss_one (ps_ret pe_bl))
      pss_nil)
      (pss_cons (ps_for PassesOwn.never rfl (pi_zip (by rfl) T.m_zip (pa_cons (pv 7) (pa_cons (pv 9) pa_nil))) (pg_tup rfl (pgs_cons (pg_name (i := 10) sc_law.nd rfl (by first | exact Or.inl rfl | exact Or.inr rfl)) (pgs_cons (pg_name (i := 11) sc_law.nd rfl (by first | exact Or.inl rfl | exact Or.inr rfl)) pgs_nil)))
      (pss_one (ps_if (pt_not (pt_val (callO O_pieces_right (hr.mono (by decide)) (by rfl) (pa_cons (pv 3) (pa_cons (pv 10) (pa_cons (pv 5) (pa_cons (pv 11) pa_nil)))))))
      (pss_one (ps_ret pe_bl))
      pss_nil)))
      (pss_one (ps_for PassesOwn.never rfl (pi_zip (by rfl) T.m_zip (pa_cons (pv 9) (pa_cons (pe_slice sl_list (pv 9) (po_some pe_int) po_none) pa_nil))) (pg_tup rfl (pgs_cons (pg_name (i := 12) sc_law.nd rfl (by first | exact Or.inl rfl | exact Or.inr rfl)) (pgs_cons (pg_name (i := 13) sc_law.nd rfl (by first | exact Or.inl rfl | exact Or.inr rfl)) pgs_nil)))
      (Evl.pss_cut (ps_if (pt_not (pt_val (callO O_stay_right (hr.mono (by decide)) (by rfl) (pa_cons (pv 3) (pa_cons (pv 5) (pa_cons (pv 6) (pa_cons (pv 12) (pa_cons (pv 13) pa_nil))))))))
      (pss_one (ps_ret pe_bl))
      pss_nil)
      (pss_one (ps_if (pt_not (pt_val (callO O_rises (hr.mono (by decide)) (by rfl) (pa_cons (pv 3) (pa_cons (pe_ix ix_tup (pv 12) pe_int (fun _ _ => rfl)) (pa_cons (pe_ix ix_tup (pv 13) pe_int (fun _ _ => rfl)) pa_nil))))))
      (pss_one (ps_ret pe_bl))
      pss_nil)))))))))))))))
      (pss_one (ps_ret pe_bl))), ?_⟩
  refine cells_for rfl hS hlen fun L0 zs HB hL sB => ?_
  refine for_list (K := K) (a := L0) (xs := zs.map V.int) (fun i σ H2 => (∃ v1 v2 v3 v4 v5 v6 v7 v8 v9 v10 v11 v12 v13, σ = [some (.ref a), v1, v2, v3, v4, v5, v6, v7, v8, v9, v10, v11, v12, v13]) ∧ Same HB H2)
    ⟨⟨none, none, none, none, none, none, none, none, none, none, none, none, none, rfl⟩, .refl _⟩ (fun i σ H2 _ h2 => .of (h2.2 _ _ hL)) ?_ (fun σ H2 _ => k H2)
  rintro i y σ H2 hi ⟨⟨v1, v2, v3, v4, v5, v6, v7, v8, v9, v10, v11, v12, v13, rfl⟩, sm⟩
  obtain ⟨z, rfl, _⟩ := int_at hi
  refine ⟨_, rfl, z, rfl, fun p H3 np s3 sm3 => ?_⟩
  refine ⟨_, rfl, p, 2, rfl, by decide, by decide, s3, fun kd H4 a4 b4 s4 o4 => ?_⟩
  refine ⟨_, rfl, p, 2, rfl, by decide, by decide, s4, fun so H5 a5 b5 s5 o5 => ?_⟩
  refine ⟨_, rfl, p, rfl, s5, fun t B L bs ls H6 hBp hLp len n1 hb hl et eB eL s6 o6 => ?_⟩
  refine ⟨t, _, rfl, .of et, rfl, _, _, rfl, _, _, rfl, rfl, ?_⟩
  obtain ⟨c, rfl⟩ := kI_of a4 b4
  have bs0 := sum_nonneg (fun n : Int => n) bs fun n hn => (hb n hn).1
  have bs1 := mk_fits (fun n : Int => n) bs 1000000000 (fun n hn => (hb n hn).2) (by decide)
  rw [List.map_id'] at bs0 bs1
  have bs2 : (bs.length : Int) * 1000000000 ≤ 30 * 1000000000 := Int.mul_le_mul_of_nonneg_right (by omega) (by decide)
  refine ⟨_, rfl, _, rfl, p, B, bs, rfl, s6, hBp, eB, bs0, by omega, fun F0 ts H7 hFp pw tl tb eF s7 o7 => ?_⟩
  have eB7 := o7 _ _ eB hBp
  have eL7 := o7 _ _ eL hLp
  refine ⟨fun σ H' => ∃ (B2 : Addr) (os : List (Option Int)) (v8' : Option V), σ = [some (.ref a), some (.int z), some (.ref p), some (.int (kI c)), some (.int so), some (.ref B2), some (.ref L), some (.ref F0), v8', v9, v10, v11, v12, v13] ∧ os.length = ls.length ∧ (∀ o ∈ os, ∀ b, o = some b → 0 ≤ b ∧ b ≤ 1000000000) ∧ (c = false → ∀ o ∈ os, o ≠ none) ∧ H' B2 = some (.lst (os.map ov)) ∧ Off p H7 H', ?_, ?_⟩
  · have stay : ∃ (B2 : Addr) (os : List (Option Int)) (v8' : Option V), ([some (.ref a), some (.int z), some (.ref p), some (.int (kI c)), some (.int so), some (.ref B), some (.ref L), some (.ref F0), v8, v9, v10, v11, v12, v13] : List (Option V)) = [some (.ref a), some (.int z), some (.ref p), some (.int (kI c)), some (.int so), some (.ref B2), some (.ref L), some (.ref F0), v8', v9, v10, v11, v12, v13] ∧ os.length = ls.length ∧ (∀ o ∈ os, ∀ b, o = some b → 0 ≤ b ∧ b ≤ 1000000000) ∧ (c = false → ∀ o ∈ os, o ≠ none) ∧ H7 B2 = some (.lst (os.map ov)) ∧ Off p H7 H7 := by
      refine ⟨B, bs.map some, v8, rfl, by rw [List.length_map]; exact len, fun o ho b e => ?_, fun _ o ho => ?_, ?_, .refl⟩
      · obtain ⟨x, hx, rfl⟩ := List.mem_map.mp ho
        cases e
        exact hb _ hx
      · obtain ⟨x, hx, rfl⟩ := List.mem_map.mp ho
        simp
      · rw [List.map_map]
        exact eB7
    cases hcc : c with
    | false =>
      rw [hcc] at stay
      exact ⟨_, rfl, rfl, false, kz_f, iteF (iteF stay)⟩
    | true =>
      rw [hcc] at stay
      refine ⟨_, rfl, rfl, true, kz_t, iteT ⟨_, rfl, rfl, _, rfl, ite2 (fun e => ?_) (fun e => stay)⟩⟩
      refine ⟨_, rfl, B, rfl, ⟨_, .of eB7⟩, fun D nD => lcD (walk_list (K := K) (a := B) (xs := bs.map V.int)) (p := p) ov (fun i x => (bs.map V.int)[i]? = some x) (fun _ _ _ _ h => h) (fun i o => o = none ∨ ∃ b, o = some b ∧ bs[i]? = some b) s7 nD (by rw [List.length_map]; omega) (fun H' o' => .of (o' _ _ eB7 hBp)) ?_ ?_⟩
      · intro i x H' A' hi hx sH o kA
        obtain ⟨bd, rfl, hbd⟩ := int_at hx
        refine ⟨rfl, _, rfl, (by show 2 ≤ sizeLine; decide), fun l nl => ⟨_, rfl, p, 4, rfl, by decide, by decide, sH.keep nl, fun r H'' r0 r1 s'' o'' => ⟨_, _, rfl, rfl, ⟨by decide, by decide⟩, ?_⟩⟩⟩
        have el := o'' _ _ upd_same (sH.ne_new nl)
        rcases (by omega : r / 3 = 0 ∨ r / 3 = 1) with h | h
        · refine ⟨l, [.int bd, .non], r / 3, .int bd, rfl, rfl, .of el, ?_, kA (some bd) H'' (.inr ⟨bd, rfl, hbd⟩) s'' ((off_new nl).trans o'')⟩
          rw [h]
          exact atI_nat (j := 0) rfl
        · refine ⟨l, [.int bd, .non], r / 3, .non, rfl, rfl, .of el, ?_, kA none H'' (.inl rfl) s'' ((off_new nl).trans o'')⟩
          rw [h]
          exact atI_nat (j := 1) rfl
      intro H8 os hDp olen oR eD s8 o8
      refine ⟨D, os, _, rfl, by rw [olen, List.length_map]; exact len, fun o ho b e => ?_, (fun h => by cases h), eD, o8⟩
      obtain ⟨i, hi⟩ := List.getElem?_of_mem ho
      rcases oR i o hi with h | ⟨b', h, hb'⟩
      · rw [h] at e
        cases e
      · rw [h] at e
        cases e
        exact hb _ (List.mem_of_getElem? hb')
  rintro σ H8 ⟨B2, os, v8', rfl, olen, ob, okn, eB8, o8⟩
  have eL8 := o8 _ _ eL7 hLp
  have eF8 := o8 _ _ eF hFp
  generalize hls : os.zip ls = ps
  have zm : ∀ x ∈ ps, x.1 ∈ os ∧ x.2 ∈ ls := fun x hx => by
    rw [← hls] at hx
    exact List.of_mem_zip (show (x.1, x.2) ∈ os.zip ls from hx)
  have eb0 : os.map ov = ps.map fun x => ov x.1 := by rw [← hls, zip_fst_map ov os ls olen]
  have el0 : ls.map V.int = ps.map fun x => V.int x.2 := by rw [← hls, zip_snd_map V.int os ls olen]
  have n8 : ps.length ≤ 30 := by
    rw [← hls, List.length_zip]
    omega
  have lb : ∀ x ∈ ps, 0 ≤ lim x ∧ lim x ≤ 1000000000 := fun x hx => by
    unfold lim
    cases e : x.1 with
    | none => exact ⟨by decide, by decide⟩
    | some b => exact ob _ (zm x hx).1 b e
  have good : Good ps := ⟨fun x hx => (hl _ (zm x hx).2).1, fun x hx => (lb x hx).1⟩
  have sW0 := sum_nonneg (fun x : Pr => x.2) ps fun x hx => (hl _ (zm x hx).2).1
  have sW1 := mk_fits (fun x : Pr => x.2) ps 1000000 (fun x hx => (hl _ (zm x hx).2).2) (by decide)
  have sW2 : (ps.length : Int) * 1000000 ≤ 30 * 1000000 := Int.mul_le_mul_of_nonneg_right (by omega) (by decide)
  have fits : ∀ n ∈ ts, Fits n ps := fun n hn => by
    have := tb n hn
    exact ⟨good, this.1, small_of (by omega), fun x hx => small_of (by have := lb x hx; omega), small_of (by unfold sumW; omega), by omega⟩
  have ca8 : CaseAt H8 B2 L c ps := ⟨by rw [← eb0]; exact eB8, by rw [← el0]; exact eL8, fun h x hx => okn h _ (zm x hx).1⟩
  have lvs : ∀ {total : Int} {lv : Option (Int × Int)} {parts : List Int}, total ∈ ts → Res c total ps lv parts → ∀ t b, lv = some (t, b) → 0 ≤ t ∧ t < 2 ^ 60 ∧ 0 ≤ b ∧ b < 2 ^ 60 := fun ht rs t b e => by
    have h1 := rs.small good e
    have h2 := tb _ ht
    unfold sumW at h1
    omega
  have eF8' : SqL K H8 F0 (ts.map V.int) := .of eF8
  refine ⟨_, rfl, F0, rfl, ⟨_, .of eF8⟩, fun D nD => lc_it (walk_list (K := K) (a := F0) (xs := ts.map V.int)) (fun i H' => ∃ rs : List Tl, rs.length = i ∧ H' D = some (.lst (rs.map fun r => V.ref r.t)) ∧ (∀ k r total, rs[k]? = some r → ts[k]? = some total → TlAt H' D c ps total r) ∧ Same H8 H') ⟨[], rfl, upd_same, (by intro k r total h; rw [List.getElem?_nil] at h; cases h), same_upd nD⟩ (fun i H' _ h => by obtain ⟨_, _, _, _, s'⟩ := h; exact s'.seq eF8') ?_ ?_⟩
  · rintro i y H' H'' hi ⟨rs, rl, eD, rt, sH⟩ ⟨rfl, hy⟩
    obtain ⟨total, rfl, ht⟩ := int_at hy
    refine ⟨rfl, yes_if ⟨_, rfl, _, rfl, _, rfl, _, rfl, c, total, B2, L, ps, rfl, ca8.same sH, fits _ (List.mem_of_getElem? ht), fun t1 q1 lv parts H9 nt nq res td s9 => ?_⟩⟩
    have nqD : q1 ≠ D := (ne_of_none eD nq).symm
    have eD9 := s9 _ _ eD
    refine ⟨_, eD9, ?_, rs ++ [⟨t1, q1, lv, parts⟩], ?_, ?_, ?_, ?_⟩
    · rw [List.length_map, rl]
      have : i < ts.length := (List.getElem?_eq_some_iff.mp ht).1
      exact big (by omega)
    · rw [List.length_append, rl]
      rfl
    · rw [upd_same, List.map_append]
      rfl
    · intro k r tt hk htt
      rcases Nat.lt_or_ge k rs.length with hlt | hge
      · rw [List.getElem?_append_left hlt] at hk
        have h := rt k r tt hk htt
        exact ⟨h.res, (h.td.same s9).upd eD9 h.ne, h.ne⟩
      · rw [List.getElem?_append_right hge] at hk
        have hk0 : k - rs.length = 0 := by
          have := (List.getElem?_eq_some_iff.mp hk).1
          simp at this
          omega
        rw [hk0] at hk
        cases hk
        have : k = i := by omega
        rw [this, ht] at htt
        cases htt
        exact ⟨res, td.upd eD9 nqD, nqD⟩
    · exact same_mut nD (sH.trans s9)
  rintro H9 ⟨rs, rl, eD, rt, sH9⟩
  rw [List.length_map] at rl
  have ca9 := ca8.same sH9
  have eF9 := sH9 _ _ eF8
  have rat : ∀ r ∈ rs, ∃ total ∈ ts, TlAt H9 D c ps total r := fun r hr => by
    obtain ⟨i, hi⟩ := List.getElem?_of_mem hr
    have hil : i < ts.length := by
      have := (List.getElem?_eq_some_iff.mp hi).1
      omega
    exact ⟨ts[i], List.getElem_mem hil, rt i r _ hi (List.getElem?_eq_getElem hil)⟩
  refine ⟨fun σ H' => σ = [some (.ref a), some (.int z), some (.ref p), some (.int (kI c)), some (.int so), some (.ref B2), some (.ref L), some (.ref F0), v8', some (.ref D), v10, v11, v12, v13] ∧ H9 = H', ?_, ?_⟩
  · refine ⟨_, rfl, .none, rs.map dTl, .non, .lst (.of eD) (dpTl_all rs fun r hr => by obtain ⟨_, _, h⟩ := rat r hr; exact h.td), rfl, shaped_Tl rs, false, ?_, iteF ⟨rfl, rfl⟩⟩
    rw [no_none]
  rintro σ H10 ⟨rfl, rfl⟩
  have fin : ∀ H', Same H9 H' → Same HB H' := fun H' s' b o hb' => by
    have hbp : b ≠ p := ne_of_none (sm _ _ hb') np
    exact s' _ _ (sH9 _ _ (o8 _ _ (o7 _ _ (o6 _ _ (o5 _ _ (o4 _ _ (sm3 _ _ (sm _ _ hb')) hbp) hbp) hbp) hbp) hbp))
  refine ⟨_, rfl, _, rfl, F0, D, _, _, rfl, .of eF9, .of eD, for_it (L2.walk_zip (n := ts.length) (xs := ts.map V.int) (ys := rs.map fun r => V.ref r.t) (by rw [List.length_map, List.length_map, rl, Nat.min_self])) (fun i σ H' => (∃ v10 v11, σ = [some (.ref a), some (.int z), some (.ref p), some (.int (kI c)), some (.int so), some (.ref B2), some (.ref L), some (.ref F0), v8', some (.ref D), v10, v11, v12, v13]) ∧ Same H9 H')
    ⟨⟨_, _, rfl⟩, .refl _⟩ (fun i σ H' _ h => ⟨.of (h.2 _ _ eF9), .of (h.2 _ _ eD)⟩) ?_ ?_⟩
  · rintro i y σ H' H'' hi ⟨⟨v10', v11', rfl⟩, sm'⟩ ⟨T1, x, y2, rfl, nT, rfl, hx, hy⟩
    obtain ⟨total, rfl, ht⟩ := int_at (show (ts.map V.int)[i]? = some x from hx)
    replace hy : (rs.map fun r => V.ref r.t)[i]? = some y2 := hy
    have hir : i < rs.length := by omega
    have e1 : rs[i]? = some rs[i] := List.getElem?_eq_getElem hir
    rw [List.getElem?_map, e1] at hy
    have hz : y2 = V.ref rs[i].t := (Option.some.inj hy).symm
    subst hz
    have ra := rt i rs[i] total e1 ht
    have sT := same_upd (o := .tup [.int total, .ref rs[i].t]) nT
    refine ⟨T1, _, rfl, .of upd_same, rfl, _, _, rfl, _, _, rfl, rfl, ?_⟩
    have s2 := sm'.trans sT
    generalize upd H' T1 (.tup [.int total, .ref rs[i].t]) = H2 at s2 ⊢
    exact ⟨_, rfl, _, rfl, _, rfl, _, rfl, c, total, B2, L, rs[i].t, rs[i].q, ps, rs[i].lv, rs[i].parts, rfl, ca9.same s2, good, ra.res, ra.td.same s2, fun H3 s3 => ⟨true, rfl, iteF ⟨⟨_, _, rfl⟩, s2.trans s3⟩⟩⟩
  rintro σ H10 ⟨⟨v10', v11', rfl⟩, s10⟩
  have eD10 := s10 _ _ eD
  refine ⟨_, rfl, _, rfl, 1, rfl, D, _, rfl, .of eD10, fun S nS => ?_⟩
  have sS := same_upd (o := .lst (cutV (rs.map fun r => V.ref r.t) (some 1) none)) nS
  have eS : (upd H10 S (.lst (cutV (rs.map fun r => V.ref r.t) (some 1) none))) S = some (.lst ((rs.drop 1).map fun r => V.ref r.t)) := by
    rw [upd_same]
    exact congrArg (fun l => some (HO.lst l)) (cut_from (fun r : Tl => V.ref r.t) rs 1)
  have s11 := s10.trans sS
  generalize upd H10 S (.lst (cutV (rs.map fun r => V.ref r.t) (some 1) none)) = H11 at sS eS s11 ⊢
  refine ⟨D, S, _, _, rfl, .of (s11 _ _ eD), .of eS, for_it (L2.walk_zip (n := rs.length - 1) (xs := rs.map fun r => V.ref r.t) (ys := (rs.drop 1).map fun r => V.ref r.t) (by rw [List.length_map, List.length_map, List.length_drop]; omega)) (fun i σ H' => (∃ v12 v13, σ = [some (.ref a), some (.int z), some (.ref p), some (.int (kI c)), some (.int so), some (.ref B2), some (.ref L), some (.ref F0), v8', some (.ref D), v10', v11', v12, v13]) ∧ Same H11 H')
    ⟨⟨_, _, rfl⟩, .refl _⟩ (fun i σ H' _ h => ⟨.of (h.2 _ _ (s11 _ _ eD)), .of (h.2 _ _ eS)⟩) ?_ ?_⟩
  · rintro i y σ H' H'' hi ⟨⟨v12', v13', rfl⟩, sm'⟩ ⟨T1, x, y2, rfl, nT, rfl, hx, hy⟩
    replace hx : (rs.map fun r => V.ref r.t)[i]? = some x := hx
    replace hy : ((rs.drop 1).map fun r => V.ref r.t)[i]? = some y2 := hy
    have hi0 : i < rs.length := by omega
    have hi1 : 1 + i < rs.length := by omega
    have e1 : rs[i]? = some rs[i] := List.getElem?_eq_getElem hi0
    have e2 : rs[1 + i]? = some rs[1 + i] := List.getElem?_eq_getElem hi1
    rw [List.getElem?_map, e1] at hx
    rw [List.getElem?_map, List.getElem?_drop, e2] at hy
    have hx1 : x = V.ref rs[i].t := (Option.some.inj hx).symm
    have hy1 : y2 = V.ref rs[1 + i].t := (Option.some.inj hy).symm
    subst hx1
    subst hy1
    have ti0 : i < ts.length := by omega
    have ti1 : 1 + i < ts.length := by omega
    have ra := rt i rs[i] ts[i] e1 (List.getElem?_eq_getElem ti0)
    have rb := rt (1 + i) rs[1 + i] ts[1 + i] e2 (List.getElem?_eq_getElem ti1)
    have hlt : ts[i] < ts[1 + i] := List.pairwise_iff_getElem.mp pw i (1 + i) ti0 ti1 (by omega)
    have m1 := List.getElem_mem ti0
    have m2 := List.getElem_mem ti1
    generalize rs[i] = r1 at ra nT ⊢
    generalize rs[1 + i] = r2 at rb nT ⊢
    generalize ts[i] = t1 at ra hlt m1
    generalize ts[1 + i] = t2 at rb hlt m2
    have sT := same_upd (o := .tup [.ref r1.t, .ref r2.t]) nT
    refine ⟨T1, _, rfl, .of upd_same, rfl, _, _, rfl, _, _, rfl, rfl, ?_⟩
    have s2 := sm'.trans sT
    generalize upd H' T1 (.tup [.ref r1.t, .ref r2.t]) = H2 at s2 ⊢
    have td1 := (ra.td.same s11).same s2
    have td2 := (rb.td.same s11).same s2
    have ca2 := (ca9.same s11).same s2
    refine ⟨fun σ H' => σ = [some (.ref a), some (.int z), some (.ref p), some (.int (kI c)), some (.int so), some (.ref B2), some (.ref L), some (.ref F0), v8', some (.ref D), v10', v11', some (.ref r1.t), some (.ref r2.t)] ∧ Same H2 H', ?_, ?_⟩
    · cases hcc : c with
      | true =>
        rw [hcc] at ca2
        have st : Stay true ps r1.lv r1.parts r2.lv r2.parts := Res.stay (c := true) (T1 := t1) (T2 := t2) hlt (by have := ra.res; rw [hcc] at this; exact this) (by have := rb.res; rw [hcc] at this; exact this)
        exact ⟨_, rfl, _, rfl, _, rfl, _, rfl, _, rfl, true, B2, L, r1.t, r2.t, r1.q, r2.q, ps, r1.lv, r2.lv, r1.parts, r2.parts, rfl, ca2, st, td1, td2, lvs m1 ra.res, fun H3 s3 => ⟨true, rfl, iteF ⟨rfl, s3⟩⟩⟩
      | false =>
        rw [hcc] at ca2
        have st : Stay false ps r2.lv r2.parts r1.lv r1.parts := Res.stay (c := false) (T1 := t1) (T2 := t2) hlt (by have := rb.res; rw [hcc] at this; exact this) (by have := ra.res; rw [hcc] at this; exact this)
        exact ⟨_, rfl, _, rfl, _, rfl, _, rfl, _, rfl, false, B2, L, r2.t, r1.t, r2.q, r1.q, ps, r2.lv, r1.lv, r2.parts, r1.parts, rfl, ca2, st, td2, td1, lvs m2 rb.res, fun H3 s3 => ⟨true, rfl, iteF ⟨rfl, s3⟩⟩⟩
    rintro σ H3 ⟨rfl, s3⟩
    obtain ⟨w1, x1, x2⟩ := (td1.same s3).ex
    obtain ⟨w2, y1, y2⟩ := (td2.same s3).ex
    exact ⟨_, rfl, _, rfl, r1.t, _, _, _, rfl, rfl, .of x1, atI_nat (j := 0) rfl, _, rfl, r2.t, _, _, _, rfl, rfl, .of y1, atI_nat (j := 0) rfl, c, w1, w2, r1.lv, r2.lv, rfl, x2, y2, ra.res.rises hlt rb.res, lvs m1 ra.res, lvs m2 rb.res, true, rfl, iteF ⟨⟨_, _, rfl⟩, s2.trans s3⟩⟩
  rintro σ H12 ⟨⟨v12', v13', rfl⟩, s12⟩
  exact ⟨⟨_, _, _, _, _, _, _, _, _, _, _, _, _, rfl⟩, fin _ (s11.trans s12)⟩
end

theorem all_mk {l : PySem.W.OpenLaw} {w : World} {K : PySem.W.Frag} {h : Heap} {mg : Str → Option Value} {fa : Addr} (X : K.In h) (G : h.Ns mainGlobals mg) (hfa : mg "law" = some (.ref fa))
    {f0 f1 f2 f3 f4 f5 f6 f7 f8 f9 f10 f11 f12 f13 f14 f15 f16 f17 f18 f19 f20 f21 f22 f23 : Addr} {od0 an0 od1 an1 od2 an2 od3 an3 od4 an4 od5 an5 od6 an6 od7 an7 od8 an8 od9 an9 od10 an10 od11 an11 od12 an12 od13 an13 od14 an14 od15 an15 od16 an16 od17 an17 od18 an18 od19 an19 od20 an20 od21 an21 od22 an22 od23 an23 : Option Addr} {sl0 sl1 sl2 sl3 sl4 sl5 sl6 sl7 sl8 sl9 sl10 sl11 sl12 sl13 sl14 sl15 sl16 sl17 sl18 sl19 sl20 sl21 sl22 sl23 : Array (Option Value)}
    {oc0 kV0 dc0 pm0 cd0 ct0 oc1 kV1 dc1 pm1 cd1 ct1 oc2 kV2 dc2 pm2 cd2 ct2 oc3 kV3 dc3 pm3 cd3 ct3 oc4 kV4 dc4 pm4 cd4 ct4 oc5 kV5 dc5 pm5 cd5 ct5 oc6 kV6 dc6 pm6 cd6 ct6 oc7 kV7 dc7 pm7 cd7 ct7 oc8 kV8 dc8 pm8 cd8 ct8 oc9 kV9 dc9 pm9 cd9 ct9 oc10 kV10 dc10 pm10 cd10 ct10 oc11 kV11 dc11 pm11 cd11 ct11 oc12 kV12 dc12 pm12 cd12 ct12 oc13 kV13 dc13 pm13 cd13 ct13 oc14 kV14 dc14 pm14 cd14 ct14 oc15 kV15 dc15 pm15 cd15 ct15 oc16 kV16 dc16 pm16 cd16 ct16 oc17 kV17 dc17 pm17 cd17 ct17 oc18 kV18 dc18 pm18 cd18 ct18 oc19 kV19 dc19 pm19 cd19 ct19 oc20 kV20 dc20 pm20 cd20 ct20 oc21 kV21 dc21 pm21 cd21 ct21 oc22 kV22 dc22 pm22 cd22 ct22 oc23 kV23 dc23 pm23 cd23 ct23 : Value}
    (a0 : PySem.W.nsIn K mainGlobals "is_whole" = some (some (.ref f0))) (l0 : K.lookup f0 = some ⟨oc0, od0, .func (PySem.W.fnOf "is_whole" "is_whole" (defArgs s_p_is_whole) (defBody s_p_is_whole) (defScope s_p_is_whole) .none kV0 dc0 pm0 an0 cd0 ct0), sl0⟩) (c0 : PySem.W.codeIn K cd0 "is_whole" = true) (k0 : PySem.W.keepIn K (.ref f0) = true)
    (a1 : PySem.W.nsIn K mainGlobals "is_count" = some (some (.ref f1))) (l1 : K.lookup f1 = some ⟨oc1, od1, .func (PySem.W.fnOf "is_count" "is_count" (defArgs s_p_is_count) (defBody s_p_is_count) (defScope s_p_is_count) .none kV1 dc1 pm1 an1 cd1 ct1), sl1⟩) (c1 : PySem.W.codeIn K cd1 "is_count" = true) (k1 : PySem.W.keepIn K (.ref f1) = true)
    (a2 : PySem.W.nsIn K mainGlobals "dealt" = some (some (.ref f2))) (l2 : K.lookup f2 = some ⟨oc2, od2, .func (PySem.W.fnOf "dealt" "dealt" (defArgs s_p_dealt) (defBody s_p_dealt) (defScope s_p_dealt) .none kV2 dc2 pm2 an2 cd2 ct2), sl2⟩) (c2 : PySem.W.codeIn K cd2 "dealt" = true) (k2 : PySem.W.keepIn K (.ref f2) = true)
    (a3 : PySem.W.nsIn K mainGlobals "levelled" = some (some (.ref f3))) (l3 : K.lookup f3 = some ⟨oc3, od3, .func (PySem.W.fnOf "levelled" "levelled" (defArgs s_p_levelled) (defBody s_p_levelled) (defScope s_p_levelled) .none kV3 dc3 pm3 an3 cd3 ct3), sl3⟩) (c3 : PySem.W.codeIn K cd3 "levelled" = true) (k3 : PySem.W.keepIn K (.ref f3) = true)
    (a4 : PySem.W.nsIn K mainGlobals "refuse_no_list" = some (some (.ref f4))) (l4 : K.lookup f4 = some ⟨oc4, od4, .func (PySem.W.fnOf "refuse_no_list" "refuse_no_list" (defArgs s_p_refuse_no_list) (defBody s_p_refuse_no_list) (defScope s_p_refuse_no_list) .none kV4 dc4 pm4 an4 cd4 ct4), sl4⟩) (c4 : PySem.W.codeIn K cd4 "refuse_no_list" = true) (k4 : PySem.W.keepIn K (.ref f4) = true)
    (a5 : PySem.W.nsIn K mainGlobals "refuse_no_counts" = some (some (.ref f5))) (l5 : K.lookup f5 = some ⟨oc5, od5, .func (PySem.W.fnOf "refuse_no_counts" "refuse_no_counts" (defArgs s_p_refuse_no_counts) (defBody s_p_refuse_no_counts) (defScope s_p_refuse_no_counts) .none kV5 dc5 pm5 an5 cd5 ct5), sl5⟩) (c5 : PySem.W.codeIn K cd5 "refuse_no_counts" = true) (k5 : PySem.W.keepIn K (.ref f5) = true)
    (a6 : PySem.W.nsIn K mainGlobals "refuse_no_weights" = some (some (.ref f6))) (l6 : K.lookup f6 = some ⟨oc6, od6, .func (PySem.W.fnOf "refuse_no_weights" "refuse_no_weights" (defArgs s_p_refuse_no_weights) (defBody s_p_refuse_no_weights) (defScope s_p_refuse_no_weights) .none kV6 dc6 pm6 an6 cd6 ct6), sl6⟩) (c6 : PySem.W.codeIn K cd6 "refuse_no_weights" = true) (k6 : PySem.W.keepIn K (.ref f6) = true)
    (a7 : PySem.W.nsIn K mainGlobals "by_level" = some (some (.ref f7))) (l7 : K.lookup f7 = some ⟨oc7, od7, .func (PySem.W.fnOf "by_level" "by_level" (defArgs s_p_by_level) (defBody s_p_by_level) (defScope s_p_by_level) .none kV7 dc7 pm7 an7 cd7 ct7), sl7⟩) (c7 : PySem.W.codeIn K cd7 "by_level" = true) (k7 : PySem.W.keepIn K (.ref f7) = true)
    (a8 : PySem.W.nsIn K mainGlobals "unbound" = some (some (.ref f8))) (l8 : K.lookup f8 = some ⟨oc8, od8, .func (PySem.W.fnOf "unbound" "unbound" (defArgs s_p_unbound) (defBody s_p_unbound) (defScope s_p_unbound) .none kV8 dc8 pm8 an8 cd8 ct8), sl8⟩) (c8 : PySem.W.codeIn K cd8 "unbound" = true) (k8 : PySem.W.keepIn K (.ref f8) = true)
    (a9 : PySem.W.nsIn K mainGlobals "cap_binds" = some (some (.ref f9))) (l9 : K.lookup f9 = some ⟨oc9, od9, .func (PySem.W.fnOf "cap_binds" "cap_binds" (defArgs s_p_cap_binds) (defBody s_p_cap_binds) (defScope s_p_cap_binds) .none kV9 dc9 pm9 an9 cd9 ct9), sl9⟩) (c9 : PySem.W.codeIn K cd9 "cap_binds" = true) (k9 : PySem.W.keepIn K (.ref f9) = true)
    (a10 : PySem.W.nsIn K mainGlobals "floor_binds" = some (some (.ref f10))) (l10 : K.lookup f10 = some ⟨oc10, od10, .func (PySem.W.fnOf "floor_binds" "floor_binds" (defArgs s_p_floor_binds) (defBody s_p_floor_binds) (defScope s_p_floor_binds) .none kV10 dc10 pm10 an10 cd10 ct10), sl10⟩) (c10 : PySem.W.codeIn K cd10 "floor_binds" = true) (k10 : PySem.W.keepIn K (.ref f10) = true)
    (a11 : PySem.W.nsIn K mainGlobals "running_parts" = some (some (.ref f11))) (l11 : K.lookup f11 = some ⟨oc11, od11, .func (PySem.W.fnOf "running_parts" "running_parts" (defArgs s_p_running_parts) (defBody s_p_running_parts) (defScope s_p_running_parts) .none kV11 dc11 pm11 an11 cd11 ct11), sl11⟩) (c11 : PySem.W.codeIn K cd11 "running_parts" = true) (k11 : PySem.W.keepIn K (.ref f11) = true)
    (a12 : PySem.W.nsIn K mainGlobals "in_lowest_terms" = some (some (.ref f12))) (l12 : K.lookup f12 = some ⟨oc12, od12, .func (PySem.W.fnOf "in_lowest_terms" "in_lowest_terms" (defArgs s_p_in_lowest_terms) (defBody s_p_in_lowest_terms) (defScope s_p_in_lowest_terms) .none kV12 dc12 pm12 an12 cd12 ct12), sl12⟩) (c12 : PySem.W.codeIn K cd12 "in_lowest_terms" = true) (k12 : PySem.W.keepIn K (.ref f12) = true)
    (a13 : PySem.W.nsIn K mainGlobals "_law_cell_at" = some (some (.ref f13))) (l13 : K.lookup f13 = some ⟨oc13, od13, .func (PySem.W.fnOf "_law_cell_at" "_law_cell_at" (defArgs s_cell_at) (defBody s_cell_at) (defScope s_cell_at) .none kV13 dc13 pm13 an13 cd13 ct13), sl13⟩) (c13 : PySem.W.codeIn K cd13 "_law_cell_at" = true) (k13 : PySem.W.keepIn K (.ref f13) = true)
    (a14 : PySem.W.nsIn K mainGlobals "_law_mixed" = some (some (.ref f14))) (l14 : K.lookup f14 = some ⟨oc14, od14, .func (PySem.W.fnOf "_law_mixed" "_law_mixed" (defArgs s_mixed) (defBody s_mixed) (defScope s_mixed) .none kV14 dc14 pm14 an14 cd14 ct14), sl14⟩) (c14 : PySem.W.codeIn K cd14 "_law_mixed" = true) (k14 : PySem.W.keepIn K (.ref f14) = true)
    (a15 : PySem.W.nsIn K mainGlobals "_law_source" = some (some (.ref f15))) (l15 : K.lookup f15 = some ⟨oc15, od15, .func (PySem.W.fnOf "_law_source" "_law_source" (defArgs s_source) (defBody s_source) (defScope s_source) .none kV15 dc15 pm15 an15 cd15 ct15), sl15⟩) (c15 : PySem.W.codeIn K cd15 "_law_source" = true) (k15 : PySem.W.keepIn K (.ref f15) = true)
    (a16 : PySem.W.nsIn K mainGlobals "_law_next" = some (some (.ref f16))) (l16 : K.lookup f16 = some ⟨oc16, od16, .func (PySem.W.fnOf "_law_next" "_law_next" (defArgs s_next) (defBody s_next) (defScope s_next) .none kV16 dc16 pm16 an16 cd16 ct16), sl16⟩) (c16 : PySem.W.codeIn K cd16 "_law_next" = true) (k16 : PySem.W.keepIn K (.ref f16) = true)
    (a17 : PySem.W.nsIn K mainGlobals "_law_case" = some (some (.ref f17))) (l17 : K.lookup f17 = some ⟨oc17, od17, .func (PySem.W.fnOf "_law_case" "_law_case" (defArgs s_case) (defBody s_case) (defScope s_case) .none kV17 dc17 pm17 an17 cd17 ct17), sl17⟩) (c17 : PySem.W.codeIn K cd17 "_law_case" = true) (k17 : PySem.W.keepIn K (.ref f17) = true)
    (a18 : PySem.W.nsIn K mainGlobals "_law_totals" = some (some (.ref f18))) (l18 : K.lookup f18 = some ⟨oc18, od18, .func (PySem.W.fnOf "_law_totals" "_law_totals" (defArgs s_totals) (defBody s_totals) (defScope s_totals) .none kV18 dc18 pm18 an18 cd18 ct18), sl18⟩) (c18 : PySem.W.codeIn K cd18 "_law_totals" = true) (k18 : PySem.W.keepIn K (.ref f18) = true)
    (a19 : PySem.W.nsIn K mainGlobals "_law_asked" = some (some (.ref f19))) (l19 : K.lookup f19 = some ⟨oc19, od19, .func (PySem.W.fnOf "_law_asked" "_law_asked" (defArgs s_asked) (defBody s_asked) (defScope s_asked) .none kV19 dc19 pm19 an19 cd19 ct19), sl19⟩) (c19 : PySem.W.codeIn K cd19 "_law_asked" = true) (k19 : PySem.W.keepIn K (.ref f19) = true)
    (a20 : PySem.W.nsIn K mainGlobals "_law_rises" = some (some (.ref f20))) (l20 : K.lookup f20 = some ⟨oc20, od20, .func (PySem.W.fnOf "_law_rises" "_law_rises" (defArgs s_rises) (defBody s_rises) (defScope s_rises) .none kV20 dc20 pm20 an20 cd20 ct20), sl20⟩) (c20 : PySem.W.codeIn K cd20 "_law_rises" = true) (k20 : PySem.W.keepIn K (.ref f20) = true)
    (a21 : PySem.W.nsIn K mainGlobals "_law_pieces_right" = some (some (.ref f21))) (l21 : K.lookup f21 = some ⟨oc21, od21, .func (PySem.W.fnOf "_law_pieces_right" "_law_pieces_right" (defArgs s_pieces_right) (defBody s_pieces_right) (defScope s_pieces_right) .none kV21 dc21 pm21 an21 cd21 ct21), sl21⟩) (c21 : PySem.W.codeIn K cd21 "_law_pieces_right" = true) (k21 : PySem.W.keepIn K (.ref f21) = true)
    (a22 : PySem.W.nsIn K mainGlobals "_law_stay_right" = some (some (.ref f22))) (l22 : K.lookup f22 = some ⟨oc22, od22, .func (PySem.W.fnOf "_law_stay_right" "_law_stay_right" (defArgs s_stay_right) (defBody s_stay_right) (defScope s_stay_right) .none kV22 dc22 pm22 an22 cd22 ct22), sl22⟩) (c22 : PySem.W.codeIn K cd22 "_law_stay_right" = true) (k22 : PySem.W.keepIn K (.ref f22) = true)
    (a23 : PySem.W.nsIn K mainGlobals "law" = some (some (.ref f23))) (l23 : K.lookup f23 = some ⟨oc23, od23, .func (PySem.W.fnOf "law" "law" (defArgs s_law) (defBody s_law) (defScope s_law) .none kV23 dc23 pm23 an23 cd23 ct23), sl23⟩) (c23 : PySem.W.codeIn K cd23 "law" = true) (k23 : PySem.W.keepIn K (.ref f23) = true)
    (z_isinstance : PySem.W.nsIn K mainGlobals "isinstance" = some none)
    (z_int : PySem.W.nsIn K mainGlobals "int" = some none)
    (z_bool : PySem.W.nsIn K mainGlobals "bool" = some none)
    (z_len : PySem.W.nsIn K mainGlobals "len" = some none)
    (z_zip : PySem.W.nsIn K mainGlobals "zip" = some none)
    (z_sum : PySem.W.nsIn K mainGlobals "sum" = some none)
    (z_list : PySem.W.nsIn K mainGlobals "list" = some none)
    (z_enumerate : PySem.W.nsIn K mainGlobals "enumerate" = some none)
    (z_range : PySem.W.nsIn K mainGlobals "range" = some none) :
    ∃ fd : FuncData, (∀ (s : Shared) (v : Value), BindsTo s fd ⟨[v], []⟩ [("_law_script", v)]) ∧ ∀ base : Heap, K.In base → base.Ns mainGlobals mg → FnOk l.prog w K mg base CX0 7 fa fd ["_law_script"] (spLaw K) := by
  have e := hfa.symm.trans (PySem.W.mg_of X G a23)
  cases e
  have H0 : Has K mg "is_whole" s_p_is_whole ["thing"] := has_mk (fun_mk (st := s_p_is_whole) l0 c0 k0) (PySem.W.mg_of X G a0) (fun _ _ _ _ _ _ us hl => match us, hl with | [_], _ => rfl)
  have H1 : Has K mg "is_count" s_p_is_count ["thing"] := has_mk (fun_mk (st := s_p_is_count) l1 c1 k1) (PySem.W.mg_of X G a1) (fun _ _ _ _ _ _ us hl => match us, hl with | [_], _ => rfl)
  have H2 : Has K mg "dealt" s_p_dealt ["total", "caps", "weights"] := has_mk (fun_mk (st := s_p_dealt) l2 c2 k2) (PySem.W.mg_of X G a2) (fun _ _ _ _ _ _ us hl => match us, hl with | [_, _, _], _ => rfl)
  have H3 : Has K mg "levelled" s_p_levelled ["total", "floors", "weights"] := has_mk (fun_mk (st := s_p_levelled) l3 c3 k3) (PySem.W.mg_of X G a3) (fun _ _ _ _ _ _ us hl => match us, hl with | [_, _, _], _ => rfl)
  have H4 : Has K mg "refuse_no_list" s_p_refuse_no_list ["thing"] := has_mk (fun_mk (st := s_p_refuse_no_list) l4 c4 k4) (PySem.W.mg_of X G a4) (fun _ _ _ _ _ _ us hl => match us, hl with | [_], _ => rfl)
  have H5 : Has K mg "refuse_no_counts" s_p_refuse_no_counts ["things"] := has_mk (fun_mk (st := s_p_refuse_no_counts) l5 c5 k5) (PySem.W.mg_of X G a5) (fun _ _ _ _ _ _ us hl => match us, hl with | [_], _ => rfl)
  have H6 : Has K mg "refuse_no_weights" s_p_refuse_no_weights ["weights", "many"] := has_mk (fun_mk (st := s_p_refuse_no_weights) l6 c6 k6) (PySem.W.mg_of X G a6) (fun _ _ _ _ _ _ us hl => match us, hl with | [_, _], _ => rfl)
  have H7 : Has K mg "by_level" s_p_by_level ["total", "limits", "weights", "binds"] := has_mk (fun_mk (st := s_p_by_level) l7 c7 k7) (PySem.W.mg_of X G a7) (fun _ _ _ _ _ _ us hl => match us, hl with | [_, _, _, _], _ => rfl)
  have H8 : Has K mg "unbound" s_p_unbound ["total", "limits", "weights", "binds"] := has_mk (fun_mk (st := s_p_unbound) l8 c8 k8) (PySem.W.mg_of X G a8) (fun _ _ _ _ _ _ us hl => match us, hl with | [_, _, _, _], _ => rfl)
  have H9 : Has K mg "cap_binds" s_p_cap_binds ["cap", "weight", "top", "bottom"] := has_mk (fun_mk (st := s_p_cap_binds) l9 c9 k9) (PySem.W.mg_of X G a9) (fun _ _ _ _ _ _ us hl => match us, hl with | [_, _, _, _], _ => rfl)
  have H10 : Has K mg "floor_binds" s_p_floor_binds ["floor", "weight", "top", "bottom"] := has_mk (fun_mk (st := s_p_floor_binds) l10 c10 k10) (PySem.W.mg_of X G a10) (fun _ _ _ _ _ _ us hl => match us, hl with | [_, _, _, _], _ => rfl)
  have H11 : Has K mg "running_parts" s_p_running_parts ["room", "weights"] := has_mk (fun_mk (st := s_p_running_parts) l11 c11 k11) (PySem.W.mg_of X G a11) (fun _ _ _ _ _ _ us hl => match us, hl with | [_, _], _ => rfl)
  have H12 : Has K mg "in_lowest_terms" s_p_in_lowest_terms ["top", "bottom"] := has_mk (fun_mk (st := s_p_in_lowest_terms) l12 c12 k12) (PySem.W.mg_of X G a12) (fun _ _ _ _ _ _ us hl => match us, hl with | [_, _], _ => rfl)
  have H13 : Has K mg "_law_cell_at" s_cell_at ["_law_script", "_law_k"] := has_mk (fun_mk (st := s_cell_at) l13 c13 k13) (PySem.W.mg_of X G a13) (fun _ _ _ _ _ _ us hl => match us, hl with | [_, _], _ => rfl)
  have H14 : Has K mg "_law_mixed" s_mixed ["_law_cell", "_law_k"] := has_mk (fun_mk (st := s_mixed) l14 c14 k14) (PySem.W.mg_of X G a14) (fun _ _ _ _ _ _ us hl => match us, hl with | [_, _], _ => rfl)
  have H15 : Has K mg "_law_source" s_source ["_law_cell"] := has_mk (fun_mk (st := s_source) l15 c15 k15) (PySem.W.mg_of X G a15) (fun _ _ _ _ _ _ us hl => match us, hl with | [_], _ => rfl)
  have H16 : Has K mg "_law_next" s_next ["_law_source_here", "_law_many"] := has_mk (fun_mk (st := s_next) l16 c16 k16) (PySem.W.mg_of X G a16) (fun _ _ _ _ _ _ us hl => match us, hl with | [_, _], _ => rfl)
  have H17 : Has K mg "_law_case" s_case ["_law_source_here"] := has_mk (fun_mk (st := s_case) l17 c17 k17) (PySem.W.mg_of X G a17) (fun _ _ _ _ _ _ us hl => match us, hl with | [_], _ => rfl)
  have H18 : Has K mg "_law_totals" s_totals ["_law_source_here", "_law_bounds"] := has_mk (fun_mk (st := s_totals) l18 c18 k18) (PySem.W.mg_of X G a18) (fun _ _ _ _ _ _ us hl => match us, hl with | [_, _], _ => rfl)
  have H19 : Has K mg "_law_asked" s_asked ["_law_kind", "_law_amount", "_law_bounds", "_law_loads"] := has_mk (fun_mk (st := s_asked) l19 c19 k19) (PySem.W.mg_of X G a19) (fun _ _ _ _ _ _ us hl => match us, hl with | [_, _, _, _], _ => rfl)
  have H20 : Has K mg "_law_rises" s_rises ["_law_kind", "_law_one", "_law_other"] := has_mk (fun_mk (st := s_rises) l20 c20 k20) (PySem.W.mg_of X G a20) (fun _ _ _ _ _ _ us hl => match us, hl with | [_, _, _], _ => rfl)
  have H21 : Has K mg "_law_pieces_right" s_pieces_right ["_law_kind", "_law_amount", "_law_bounds", "_law_found"] := has_mk (fun_mk (st := s_pieces_right) l21 c21 k21) (PySem.W.mg_of X G a21) (fun _ _ _ _ _ _ us hl => match us, hl with | [_, _, _, _], _ => rfl)
  have H22 : Has K mg "_law_stay_right" s_stay_right ["_law_kind", "_law_bounds", "_law_loads", "_law_less", "_law_more"] := has_mk (fun_mk (st := s_stay_right) l22 c22 k22) (PySem.W.mg_of X G a22) (fun _ _ _ _ _ _ us hl => match us, hl with | [_, _, _, _, _], _ => rfl)
  have T : Txt K mg := ⟨H0, H1, H2, H3, H4, H5, H6, H7, H8, H9, H10, H11, H12, H13, H14, H15, H16, H17, H18, H19, H20, H21, H22, PySem.W.mg_none_of X G z_isinstance, PySem.W.mg_none_of X G z_int, PySem.W.mg_none_of X G z_bool, PySem.W.mg_none_of X G z_len, PySem.W.mg_none_of X G z_zip, PySem.W.mg_none_of X G z_sum, PySem.W.mg_none_of X G z_list, PySem.W.mg_none_of X G z_enumerate, PySem.W.mg_none_of X G z_range⟩
  exact ⟨_, fun s v => .of_eq rfl, fun base _ _ => ok_law (fun_mk (st := s_law) l23 c23 k23) T⟩
end K08
open PySem PySem.W PyProof.Rows
set_option maxRecDepth 100000 in
set_option maxHeartbeats 0 in
theorem PySem.Challenge.cw_nestlaid_k08_whole_totals_rise_holds : PySem.Challenge.rw_nestlaid_k08_whole_totals_rise.Holds := by
  w_on; o_law; k_head; (case hw => w_witness2)
  k_fill
  refine L2.walk_of (l := PySem.Challenge.rw_nestlaid_k08_whole_totals_rise) (n := 63) (k := 7) (x := "_law_script") (CX := fun _ => L2.CX0) (sp := fun w => K08.spLaw _) rfl (by decide) rfl ⟨rfl, by decide, by decide⟩ (fun w h Y => PySem.W.kIn_of Y) ?F (fun _ _ a ns hl _ hS => ⟨a, ns, rfl, hS, hl, fun _ => rfl⟩) (fun _ _ _ _ _ h => h)
  case F =>
    intro w mg fa h KX G hmg
    refine' K08.all_mk KX G hmg ?a0 ?l0 ?c0 ?k0 ?a1 ?l1 ?c1 ?k1 ?a2 ?l2 ?c2 ?k2 ?a3 ?l3 ?c3 ?k3 ?a4 ?l4 ?c4 ?k4 ?a5 ?l5 ?c5 ?k5 ?a6 ?l6 ?c6 ?k6 ?a7 ?l7 ?c7 ?k7 ?a8 ?l8 ?c8 ?k8 ?a9 ?l9 ?c9 ?k9 ?a10 ?l10 ?c10 ?k10 ?a11 ?l11 ?c11 ?k11 ?a12 ?l12 ?c12 ?k12 ?a13 ?l13 ?c13 ?k13 ?a14 ?l14 ?c14 ?k14 ?a15 ?l15 ?c15 ?k15 ?a16 ?l16 ?c16 ?k16 ?a17 ?l17 ?c17 ?k17 ?a18 ?l18 ?c18 ?k18 ?a19 ?l19 ?c19 ?k19 ?a20 ?l20 ?c20 ?k20 ?a21 ?l21 ?c21 ?k21 ?a22 ?l22 ?c22 ?k22 ?a23 ?l23 ?c23 ?k23 ?z_isinstance ?z_int ?z_bool ?z_len ?z_zip ?z_sum ?z_list ?z_enumerate ?z_range
    (case a0 => k_is); (case l0 => k_is); (case c0 => k_is); (case k0 => k_is)
    (case a1 => k_is); (case l1 => k_is); (case c1 => k_is); (case k1 => k_is)
    (case a2 => k_is); (case l2 => k_is); (case c2 => k_is); (case k2 => k_is)
    (case a3 => k_is); (case l3 => k_is); (case c3 => k_is); (case k3 => k_is)
    (case a4 => k_is); (case l4 => k_is); (case c4 => k_is); (case k4 => k_is)
    (case a5 => k_is); (case l5 => k_is); (case c5 => k_is); (case k5 => k_is)
    (case a6 => k_is); (case l6 => k_is); (case c6 => k_is); (case k6 => k_is)
    (case a7 => k_is); (case l7 => k_is); (case c7 => k_is); (case k7 => k_is)
    (case a8 => k_is); (case l8 => k_is); (case c8 => k_is); (case k8 => k_is)
    (case a9 => k_is); (case l9 => k_is); (case c9 => k_is); (case k9 => k_is)
    (case a10 => k_is); (case l10 => k_is); (case c10 => k_is); (case k10 => k_is)
    (case a11 => k_is); (case l11 => k_is); (case c11 => k_is); (case k11 => k_is)
    (case a12 => k_is); (case l12 => k_is); (case c12 => k_is); (case k12 => k_is)
    (case a13 => k_is); (case l13 => k_is); (case c13 => k_is); (case k13 => k_is)
    (case a14 => k_is); (case l14 => k_is); (case c14 => k_is); (case k14 => k_is)
    (case a15 => k_is); (case l15 => k_is); (case c15 => k_is); (case k15 => k_is)
    (case a16 => k_is); (case l16 => k_is); (case c16 => k_is); (case k16 => k_is)
    (case a17 => k_is); (case l17 => k_is); (case c17 => k_is); (case k17 => k_is)
    (case a18 => k_is); (case l18 => k_is); (case c18 => k_is); (case k18 => k_is)
    (case a19 => k_is); (case l19 => k_is); (case c19 => k_is); (case k19 => k_is)
    (case a20 => k_is); (case l20 => k_is); (case c20 => k_is); (case k20 => k_is)
    (case a21 => k_is); (case l21 => k_is); (case c21 => k_is); (case k21 => k_is)
    (case a22 => k_is); (case l22 => k_is); (case c22 => k_is); (case k22 => k_is)
    (case a23 => k_is); (case l23 => k_is); (case c23 => k_is); (case k23 => k_is)
    (case z_isinstance => k_is); (case z_int => k_is); (case z_bool => k_is); (case z_len => k_is)
    (case z_zip => k_is); (case z_sum => k_is); (case z_list => k_is); (case z_enumerate => k_is)
    (case z_range => k_is)
