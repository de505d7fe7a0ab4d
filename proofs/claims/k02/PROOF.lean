import PyProof.Rows.All
import Wide.All
import OpenK.AllK
import Wide.FinOn
import HandS.ForMost
import HandS.ForExc
import HandS.Wide
import HandS.Defaults
import HandS.IsInst
import HandS.FStr
import HandS.Walk
import HandS.CallLocal
import HandS.Evl
import HandS.ExcIs
import PyProof.NeKinds
import PySem.Challenge.RW_nestlaid_k02_what_cannot_be_dealt
set_option Elab.async false
set_option linter.all false
set_option maxRecDepth 100000
set_option maxHeartbeats 4000000

namespace K02
open PySem PySem.Spec PyProof.Rows L2
def topS (i : Nat) : Stmt := PySem.Challenge.pw_nestlaid_k02_what_cannot_be_dealt.main.body.getD i (.Pass ⟨0, 0, 0, 0⟩)
abbrev s_p_is_whole : Stmt := topS 12
abbrev s_p_is_count : Stmt := topS 13
abbrev s_p_dealt : Stmt := topS 14
abbrev s_p_levelled : Stmt := topS 15
abbrev s_p_refuse_no_list : Stmt := topS 16
abbrev s_p_refuse_no_counts : Stmt := topS 17
abbrev s_p_refuse_no_weights : Stmt := topS 18
abbrev s_p_by_level : Stmt := topS 19
abbrev s_p_unbound : Stmt := topS 20
abbrev s_p_cap_binds : Stmt := topS 21
abbrev s_p_floor_binds : Stmt := topS 22
abbrev s_p_running_parts : Stmt := topS 23
abbrev s_p_in_lowest_terms : Stmt := topS 24
abbrev s_cell_at : Stmt := topS 26
abbrev s_mixed : Stmt := topS 27
abbrev s_source : Stmt := topS 28
abbrev s_next : Stmt := topS 29
abbrev s_deal : Stmt := topS 30
abbrev s_numbers : Stmt := topS 31
abbrev s_no_number : Stmt := topS 32
abbrev s_no_list : Stmt := topS 33
abbrev s_spoilt : Stmt := topS 34
abbrev s_copy : Stmt := topS 35
abbrev s_refused : Stmt := topS 36
abbrev s_told : Stmt := topS 37
abbrev s_law : Stmt := topS 38
abbrev n_p_is_whole : List Str := ["thing"]
theorem sc_p_is_whole : FnScope n_p_is_whole ["thing"] (defScope s_p_is_whole) := ⟨rfl, rfl, rfl, by decide +kernel, rfl, by decide +kernel, by decide +kernel⟩
abbrev n_p_is_count : List Str := ["thing"]
theorem sc_p_is_count : FnScope n_p_is_count ["thing"] (defScope s_p_is_count) := ⟨rfl, rfl, rfl, by decide +kernel, rfl, by decide +kernel, by decide +kernel⟩
abbrev n_p_dealt : List Str := ["total", "caps", "weights", "cap", "limits", "weight"]
theorem sc_p_dealt : FnScope n_p_dealt ["total", "caps", "weights"] (defScope s_p_dealt) := ⟨rfl, rfl, rfl, by decide +kernel, rfl, by decide +kernel, by decide +kernel⟩
abbrev n_p_levelled : List Str := ["total", "floors", "weights"]
theorem sc_p_levelled : FnScope n_p_levelled ["total", "floors", "weights"] (defScope s_p_levelled) := ⟨rfl, rfl, rfl, by decide +kernel, rfl, by decide +kernel, by decide +kernel⟩
abbrev n_p_refuse_no_list : List Str := ["thing"]
theorem sc_p_refuse_no_list : FnScope n_p_refuse_no_list ["thing"] (defScope s_p_refuse_no_list) := ⟨rfl, rfl, rfl, by decide +kernel, rfl, by decide +kernel, by decide +kernel⟩
abbrev n_p_refuse_no_counts : List Str := ["things", "thing"]
theorem sc_p_refuse_no_counts : FnScope n_p_refuse_no_counts ["things"] (defScope s_p_refuse_no_counts) := ⟨rfl, rfl, rfl, by decide +kernel, rfl, by decide +kernel, by decide +kernel⟩
abbrev n_p_refuse_no_weights : List Str := ["weights", "many"]
theorem sc_p_refuse_no_weights : FnScope n_p_refuse_no_weights ["weights", "many"] (defScope s_p_refuse_no_weights) := ⟨rfl, rfl, rfl, by decide +kernel, rfl, by decide +kernel, by decide +kernel⟩
abbrev n_p_by_level : List Str := ["total", "limits", "weights", "binds", "free", "room", "whole_weight", "parts", "at", "part", "place"]
theorem sc_p_by_level : FnScope n_p_by_level ["total", "limits", "weights", "binds"] (defScope s_p_by_level) := ⟨rfl, rfl, rfl, by decide +kernel, rfl, by decide +kernel, by decide +kernel⟩
abbrev n_p_unbound : List Str := ["total", "limits", "weights", "binds", "free", "at", "weight", "room", "limit", "whole_weight", "bound"]
theorem sc_p_unbound : FnScope n_p_unbound ["total", "limits", "weights", "binds"] (defScope s_p_unbound) := ⟨rfl, rfl, rfl, by decide +kernel, rfl, by decide +kernel, by decide +kernel⟩
abbrev n_p_cap_binds : List Str := ["cap", "weight", "top", "bottom"]
theorem sc_p_cap_binds : FnScope n_p_cap_binds ["cap", "weight", "top", "bottom"] (defScope s_p_cap_binds) := ⟨rfl, rfl, rfl, by decide +kernel, rfl, by decide +kernel, by decide +kernel⟩
abbrev n_p_floor_binds : List Str := ["floor", "weight", "top", "bottom"]
theorem sc_p_floor_binds : FnScope n_p_floor_binds ["floor", "weight", "top", "bottom"] (defScope s_p_floor_binds) := ⟨rfl, rfl, rfl, by decide +kernel, rfl, by decide +kernel, by decide +kernel⟩
abbrev n_p_running_parts : List Str := ["room", "weights", "whole", "parts", "weight_so_far", "dealt_so_far", "weight", "dealt_now"]
theorem sc_p_running_parts : FnScope n_p_running_parts ["room", "weights"] (defScope s_p_running_parts) := ⟨rfl, rfl, rfl, by decide +kernel, rfl, by decide +kernel, by decide +kernel⟩
abbrev n_p_in_lowest_terms : List Str := ["top", "bottom", "divisor", "rest"]
theorem sc_p_in_lowest_terms : FnScope n_p_in_lowest_terms ["top", "bottom"] (defScope s_p_in_lowest_terms) := ⟨rfl, rfl, rfl, by decide +kernel, rfl, by decide +kernel, by decide +kernel⟩
abbrev n_cell_at : List Str := ["_law_script", "_law_k"]
theorem sc_cell_at : FnScope n_cell_at ["_law_script", "_law_k"] (defScope s_cell_at) := ⟨rfl, rfl, rfl, by decide +kernel, rfl, by decide +kernel, by decide +kernel⟩
abbrev n_mixed : List Str := ["_law_cell", "_law_k", "_law_low"]
theorem sc_mixed : FnScope n_mixed ["_law_cell", "_law_k"] (defScope s_mixed) := ⟨rfl, rfl, rfl, by decide +kernel, rfl, by decide +kernel, by decide +kernel⟩
abbrev n_source : List Str := ["_law_cell"]
theorem sc_source : FnScope n_source ["_law_cell"] (defScope s_source) := ⟨rfl, rfl, rfl, by decide +kernel, rfl, by decide +kernel, by decide +kernel⟩
abbrev n_next : List Str := ["_law_source_here", "_law_many", "_law_found"]
theorem sc_next : FnScope n_next ["_law_source_here", "_law_many"] (defScope s_next) := ⟨rfl, rfl, rfl, by decide +kernel, rfl, by decide +kernel, by decide +kernel⟩
abbrev n_deal : List Str := ["_law_kind", "_law_total", "_law_bounds", "_law_weights"]
theorem sc_deal : FnScope n_deal ["_law_kind", "_law_total", "_law_bounds", "_law_weights"] (defScope s_deal) := ⟨rfl, rfl, rfl, by decide +kernel, rfl, by decide +kernel, by decide +kernel⟩
abbrev n_numbers : List Str := ["_law_source_here", "_law_many", "_law_far", "_law_k"]
theorem sc_numbers : FnScope n_numbers ["_law_source_here", "_law_many"] (defScope s_numbers) := ⟨rfl, rfl, rfl, by decide +kernel, rfl, by decide +kernel, by decide +kernel⟩
abbrev n_no_number : List Str := ["_law_source_here", "_law_kind", "_law_some"]
theorem sc_no_number : FnScope n_no_number ["_law_source_here", "_law_kind"] (defScope s_no_number) := ⟨rfl, rfl, rfl, by decide +kernel, rfl, by decide +kernel, by decide +kernel⟩
abbrev n_no_list : List Str := ["_law_source_here", "_law_row"]
theorem sc_no_list : FnScope n_no_list ["_law_source_here", "_law_row"] (defScope s_no_list) := ⟨rfl, rfl, rfl, by decide +kernel, rfl, by decide +kernel, by decide +kernel⟩
abbrev n_spoilt : List Str := ["_law_source_here", "_law_kind", "_law_handed", "_law_way", "_law_total", "_law_bounds", "_law_weights"]
theorem sc_spoilt : FnScope n_spoilt ["_law_source_here", "_law_kind", "_law_handed", "_law_way"] (defScope s_spoilt) := ⟨rfl, rfl, rfl, by decide +kernel, rfl, by decide +kernel, by decide +kernel⟩
abbrev n_copy : List Str := ["_law_thing"]
theorem sc_copy : FnScope n_copy ["_law_thing"] (defScope s_copy) := ⟨rfl, rfl, rfl, by decide +kernel, rfl, by decide +kernel, by decide +kernel⟩
abbrev n_refused : List Str := ["_law_kind", "_law_handed", "e", "_law_kinds"]
theorem sc_refused : FnScope n_refused ["_law_kind", "_law_handed"] (defScope s_refused) := ⟨rfl, rfl, rfl, by decide +kernel, rfl, by decide +kernel, by decide +kernel⟩
abbrev n_told : List Str := ["_law_kind", "_law_total", "_law_bounds", "_law_weights", "_law_found"]
theorem sc_told : FnScope n_told ["_law_kind", "_law_total", "_law_bounds", "_law_weights"] (defScope s_told) := ⟨rfl, rfl, rfl, by decide +kernel, rfl, by decide +kernel, by decide +kernel⟩
abbrev n_law : List Str := ["_law_script", "_law_cell", "_law_source_here", "_law_kind", "_law_ways", "_law_many", "_law_total", "_law_bounds", "_law_weights", "_law_handed", "_law_way", "_law_kept", "_law_thing"]
theorem sc_law : FnScope n_law ["_law_script"] (defScope s_law) := ⟨rfl, rfl, rfl, by decide +kernel, rfl, by decide +kernel, by decide +kernel⟩
/-! ### what is known of a def of the top, and of a def that keeps its promise -/
structure Has (K : PySem.W.Frag) (mg : Str → Option Value) (x : Str) (st : Stmt) (ps : List Str) : Prop where
  ex : ∃ f fd, Fun K x x st f fd ∧ mg x = some (.ref f) ∧ Binds K fd ps []
structure Ok (P : Program) (w : World) (K : PySem.W.Frag) (mg : Str → Option Value) (base : Heap) (C : CXT) (x : Str) (st : Stmt) (k : Nat) (ps : List Str) (sp : Sp) : Prop where
  ex : ∃ f fd, Fun K x x st f fd ∧ FnOk P w K mg base C k f fd ps sp ∧ mg x = some (.ref f) ∧ Binds K fd ps []
section
variable {P : Program} {w : World} {K : PySem.W.Frag} {mg : Str → Option Value} {base : Heap} {x : Str} {st : Stmt} {ps N : List Str} {k : Nat} {sp : Sp}
theorem has_mk {f : Addr} {fd : FuncData} (F : Fun K x x st f fd) (g : mg x = some (.ref f))
    (h : ∀ (kV doc pm : Value) (an : Option Addr) (cdv ct : Value) (us : List Value), us.length = ps.length → bindArgs (PySem.W.fnOf x x (defArgs st) (defBody st) (defScope st) .none kV doc pm an cdv ct) ⟨us, []⟩ = pure (ps.zip us)) : Has K mg x st ps :=
  ⟨f, fd, F, g, F.binds h⟩
theorem Has.ok (D : Has K mg x st ps) (S : FnScope N ps (defScope st)) (len : ∀ vs H Q E, sp vs H Q E → vs.length = ps.length)
    (hbody : ∀ (f : Addr) (cdv : Value) (A : Around) (outer : List Env) (s : Shared) (H : Hp) (vs : List V) (Q : VK) (E : XK), Room k (A.deeper (envOfC x (defScope st) s.heap.objs.size f cdv)) → sp vs H Q E →
      ∃ t, PSs (cxOf CX0 P w K mg base N x (defScope st) f cdv A outer s H E).nox (defBody st) t ∧ t { nx := fun _ H' => Q .non H', rt := Q } (start N vs) H) : Ok P w K mg base CX0 x st (k + 1) ps sp := by
  obtain ⟨f, fd, F, g, b⟩ := D
  exact ⟨f, fd, F, F.ok S len (hbody f), g, b⟩
end
section
variable {X : Cx} {x : Str} {st : Stmt} {ps ks : List Str} {k : Nat} {sp : Sp} {e : Expr} {es : List Expr} {kws : List Keyword} {t tk : TA} {p pos : Pos} {g : List Value → List Value → List Value} {gV : List V → List V → List V}
theorem callO (O : Ok X.prog X.w X.K X.mg X.base CX0 x st k ps sp) (hr : Room k X.A) (hg : Gl X x) (ha : PA X (e :: es) t) (hdb : (x == ("__debug__" : Str)) = false := by decide) (he : starEach (e :: es) X.env = (false, eval e X.env) :: starEach es X.env := by rfl) (hpl : (backTo pos (starEach es X.env)).any (·.1) = false := by rfl) :
    PE X (.Call (.Name x p) (e :: es) [] pos) (tCall sp [] E0 t) := by
  obtain ⟨f, fd, F, G, m, b⟩ := O
  exact pe_call G hr hg m F.kp b .nil pass0 ha hdb he hpl
/-- how a call by keywords alone binds -/
def KwB (x : Str) (st : Stmt) (ps ks : List Str) (g : List Value → List Value → List Value) : Prop :=
  ∀ (kV doc pm : Value) (an : Option Addr) (cdv ct : Value) (ws : List Value), ws.length = ks.length → bindArgs (PySem.W.fnOf x x (defArgs st) (defBody st) (defScope st) .none kV doc pm an cdv ct) ⟨[], ks.zip ws⟩ = pure (ps.zip (g [] ws))
theorem kbn_of {K : PySem.W.Frag} {f : Addr} {fd : FuncData} (F : Fun K x x st f fd) (h : KwB x st ps ks g) (rel : ∀ {vs : List V} {us : List Value} {zs : List V} {ws : List Value}, Vals vs us → Vals zs ws → Vals (gV vs zs) (g us ws)) : KBn K fd ps 0 ks g gV := by
  obtain ⟨oc, od, kV, doc, pm, an, cdv, ct, osl, rfl, lk, hcd⟩ := F.ex
  refine ⟨fun s us ws _ h1 h2 => ?_, rel⟩
  obtain rfl : us = [] := List.eq_nil_of_length_eq_zero h1
  exact .of_eq (h kV doc pm an cdv ct ws h2)
/-- f(k = v, ..) -/
theorem callO_kw (O : Ok X.prog X.w X.K X.mg X.base CX0 x st k ps sp) (h : KwB x st ps ks g) (rel : ∀ {vs : List V} {us : List Value} {zs : List V} {ws : List Value}, Vals vs us → Vals zs ws → Vals (gV vs zs) (g us ws)) (hr : Room k X.A) (hg : Gl X x) (hkw : PK X kws tk)
    (hall : (backToKw pos (keywordEach kws X.env)).all (·.1.isSome) = true := by rfl) (hks : (backToKw pos (keywordEach kws X.env)).filterMap (·.1) = ks := by rfl) (hdb : (x == ("__debug__" : Str)) = false := by decide)
    (hpl : ((backTo pos (starEach [] X.env)).any (·.1) || (backToKw pos (keywordEach kws X.env)).any (·.1.isNone)) = false := by rfl) :
    PE X (.Call (.Name x p) [] kws pos) (tCallN 0 ks.length sp gV E0 tNil tk) := by
  obtain ⟨f, fd, F, G, m, b⟩ := O
  refine ⟨fun pins s σ H Q I h0 => ?_⟩
  refine wpAny_Call_Name_kw (ld_glob I hg m ?_ hdb)
  refine PySem.W.callWith_KW0 (h₀ := X.base) I.ok.mod.kin F.kp hall ?_ hpl
  refine thn (hkw.run pos pins s σ H _ I h0) fun ws s2 ⟨zs, H2, I2, rz, l1, l2, q2⟩ => ⟨I2.kIn, ?_⟩
  rw [hks]
  exact run_fnN (us := []) (vs := []) G hr (kbn_of F h rel) pass0 I2 .nil rz rfl l2 q2
end
/-! ### heaps -/
/-- all but p is as it was -/
def Off (p : Addr) (H H' : Hp) : Prop := ∀ b o, H b = some o → b ≠ p → H' b = some o
theorem Off.refl {p : Addr} {H : Hp} : Off p H H := fun _ _ h _ => h
theorem Off.trans {p : Addr} {H H1 H2 : Hp} (a : Off p H H1) (b : Off p H1 H2) : Off p H H2 := fun c o h n => b c o (a c o h n) n
theorem Off.of {p : Addr} {H H' : Hp} (s : Same H H') : Off p H H' := fun b o h _ => s b o h
theorem off_upd {p : Addr} {H : Hp} {o : HO} : Off p H (upd H p o) := fun b o' h n => by rw [upd_ne n]; exact h
theorem same_upd {H : Hp} {p : Addr} {o : HO} (h : H p = none) : Same H (upd H p o) := fun b x e => by
  rw [upd_ne (ne_of_none e h)]
  exact e
theorem off_new {p q : Addr} {H : Hp} {o : HO} (h : H q = none) : Off p H (upd H q o) := .of (same_upd h)
theorem Off.seq {K : PySem.W.Frag} {p : Addr} {H H' : Hp} {a : Addr} {xs : List V} (e : Off p H H') (n : a ≠ p) (h : SqL K H a xs) : SqL K H' a xs := by
  rcases h with (h | ⟨o, h⟩) | h
  · exact .inl (.inl (e _ _ h n))
  · exact .inl (.inr ⟨o, e _ _ h n⟩)
  · exact .inr h
theorem Off.ne {p a : Addr} {H H' : Hp} {o o' : HO} (h : H a = some o) (n : H p = none) : a ≠ p := ne_of_none h n
theorem atI_mem {α : Type} {xs : List α} {i : Int} (h0 : 0 ≤ i) (h1 : i < (xs.length : Int)) : ∃ v, v ∈ xs ∧ atI xs i = some v := by
  have h2 : i.toNat < xs.length := by omega
  refine ⟨xs[i.toNat], List.getElem_mem h2, ?_⟩
  have h3 := atI_nat (xs := xs) (j := i.toNat) (v := xs[i.toNat]) (List.getElem?_eq_getElem h2)
  rw [show ((i.toNat : Nat) : Int) = i by omega] at h3
  exact h3
theorem atI_at {α : Type} {xs : List α} {i : Int} (h0 : 0 ≤ i) (h1 : i < (xs.length : Int)) : ∃ (j : Nat) (v : α), (j : Int) = i ∧ xs[j]? = some v ∧ atI xs i = some v := by
  have h2 : i.toNat < xs.length := by omega
  have h3 := atI_nat (xs := xs) (j := i.toNat) (v := xs[i.toNat]) (List.getElem?_eq_getElem h2)
  rw [show ((i.toNat : Nat) : Int) = i by omega] at h3
  exact ⟨i.toNat, _, by omega, List.getElem?_eq_getElem h2, h3⟩
theorem int_at {ns : List Int} {i : Nat} {y : V} (h : (ns.map V.int)[i]? = some y) : ∃ z, y = V.int z ∧ ns[i]? = some z := by
  rw [List.getElem?_map] at h
  cases e : ns[i]? with
  | none =>
    rw [e] at h
    cases h
  | some z =>
    rw [e] at h
    exact ⟨z, (Option.some.inj h).symm, rfl⟩
theorem cut_ints (ns : List Int) (lo hi : Option Int) : ∃ ms : List Int, ms.length ≤ ns.length ∧ cutV (ns.map V.int) lo hi = ms.map V.int := by
  unfold cutV
  rw [← List.map_drop, ← List.map_take]
  exact ⟨_, by rw [List.length_take, List.length_drop]; omega, rfl⟩
theorem yes_if {σ : L2.St} {H : Hp} {A B : Hp → Prop} (h : A H) : tYes σ H (fun b H3 => if b = true then A H3 else B H3) := by
  show if true = true then A H else B H
  exact iteT h

/-! ### defs that may raise, and what is caught -/
def clsA (mg : Str → Option Value) (x : Str) : Addr := match mg x with
  | some (.ref a) => a
  | _ => 0
theorem clsA_of {mg : Str → Option Value} {x : Str} {a : Addr} (h : mg x = some (.ref a)) : clsA mg x = a := by
  unfold clsA
  rw [h]
/-- an error class of the program without an own __init__, which is raised -/
structure ErrC (K : PySem.W.Frag) (mg : Str → Option Value) (x : Str) : Prop where
  g : mg x = some (.ref (clsA mg x))
  xi : PySem.W.excIn K (clsA mg x) [.type "ValueError", .type "Exception", .type "BaseException", .type "object"] "ValueError.__new__" = true
  k : PySem.W.keepIn K (.ref (clsA mg x)) = true
  b : PySem.W.subIn K (.ref (clsA mg x)) (.type "BaseException") = some true
  t : PySem.W.typeIn K (.ref (clsA mg x)) = some (.type "type")
  e : ExcC K (clsA mg x)
/-- an error of the class x is caught by the class y -/
structure Caught (K : PySem.W.Frag) (mg : Str → Option Value) (x y : Str) : Prop where
  g : mg y = some (.ref (clsA mg y))
  m : PySem.W.exmOne K (.ref (clsA mg x)) (.ref (clsA mg y)) = some true
/-- whether an error of the class x is of the class y -/
structure KitC (K : PySem.W.Frag) (mg : Str → Option Value) (x y : Str) (b : Bool) : Prop where
  g : mg y = some (.ref (clsA mg y))
  m : PySem.W.kitOne K (.ref (clsA mg x)) (.ref (clsA mg y)) = some b
section
variable {P : Program} {w : World} {K : PySem.W.Frag} {mg : Str → Option Value} {base : Heap} {x : Str} {st : Stmt} {ps N : List Str} {k : Nat} {sp : Sp}
theorem Has.okX (D : Has K mg x st ps) (S : FnScope N ps (defScope st)) (len : ∀ vs H Q E, sp vs H Q E → vs.length = ps.length)
    (hbody : ∀ (f : Addr) (cdv : Value) (A : Around) (outer : List Env) (s : Shared) (H : Hp) (vs : List V) (Q : VK) (E : XK), Room k (A.deeper (envOfC x (defScope st) s.heap.objs.size f cdv)) → sp vs H Q E →
      ∃ t, PSs (cxOf (L2.CX P w) P w K mg base N x (defScope st) f cdv A outer s H E) (defBody st) t ∧ t { nx := fun _ H' => Q .non H', rt := Q } (start N vs) H) : Ok P w K mg base (L2.CX P w) x st (k + 1) ps sp := by
  obtain ⟨f, fd, F, g, b⟩ := D
  exact ⟨f, fd, F, F.okX S len (hbody f), g, b⟩
end
section
variable {X : Cx} {x : Str} {st : Stmt} {ps : List Str} {k : Nat} {sp : Sp} {e : Expr} {es : List Expr} {t : TA} {p pos : Pos} {W : WX}
theorem callX (O : Ok X.prog X.w X.K X.mg X.base (L2.CX X.prog X.w) x st k ps sp) (hr : Room k X.A) (hg : Gl X x) (tk : Takes X W) (ha : PA X (e :: es) t) (hdb : (x == ("__debug__" : Str)) = false := by decide) (he : starEach (e :: es) X.env = (false, eval e X.env) :: starEach es X.env := by rfl) (hpl : (backTo pos (starEach es X.env)).any (·.1) = false := by rfl) :
    PE X (.Call (.Name x p) (e :: es) [] pos) (tCallS sp (WE W) t) := by
  obtain ⟨f, fd, F, G, m, b⟩ := O
  exact pe_callS G hr hg m F.kp b (fun σ => passAt tk σ) ha hdb he hpl
/-- isinstance(e, c) in the suite of an except that has caught an error of the class C, which has no dict -/
def rIsE2 (K : PySem.W.Frag) (C a : Addr) (cls : Value) (d : Option Addr) : List V → Hp → VK → Prop := fun xs H Q => cls = .ref C ∧ d = none ∧ rIsE K C a xs H Q
theorem call_isE2 {a C : Addr} {oe : Obj} {pn : List (Addr × Obj)} {cls : Value} {d : Option Addr} (c : ExcC X.K C) (hz : Zc cls d oe) (hf : ∃ vs, oe.data = .fields vs) : CallR (X.suite a ((a, oe) :: pn)) (.builtin "isinstance") (rIsE2 X.K C a cls d) := by
  intro pins s σ H xs us Q I r h
  obtain ⟨rfl, rfl, h⟩ := h
  exact call_isE c hz hf pins s σ H xs us Q I r h
end

structure Txt (K : PySem.W.Frag) (mg : Str → Option Value) : Prop where
  h_p_is_whole : Has K mg "is_whole" s_p_is_whole ["thing"]
  h_p_is_count : Has K mg "is_count" s_p_is_count ["thing"]
  h_p_dealt : Has K mg "dealt" s_p_dealt ["total", "caps", "weights"]
  h_p_levelled : Has K mg "levelled" s_p_levelled ["total", "floors", "weights"]
  h_p_refuse_no_list : Has K mg "refuse_no_list" s_p_refuse_no_list ["thing"]
  h_p_refuse_no_counts : Has K mg "refuse_no_counts" s_p_refuse_no_counts ["things"]
  h_p_refuse_no_weights : Has K mg "refuse_no_weights" s_p_refuse_no_weights ["weights", "many"]
  h_p_by_level : Has K mg "by_level" s_p_by_level ["total", "limits", "weights", "binds"]
  h_p_unbound : Has K mg "unbound" s_p_unbound ["total", "limits", "weights", "binds"]
  h_p_cap_binds : Has K mg "cap_binds" s_p_cap_binds ["cap", "weight", "top", "bottom"]
  h_p_floor_binds : Has K mg "floor_binds" s_p_floor_binds ["floor", "weight", "top", "bottom"]
  h_p_running_parts : Has K mg "running_parts" s_p_running_parts ["room", "weights"]
  h_p_in_lowest_terms : Has K mg "in_lowest_terms" s_p_in_lowest_terms ["top", "bottom"]
  h_cell_at : Has K mg "_law_cell_at" s_cell_at ["_law_script", "_law_k"]
  h_mixed : Has K mg "_law_mixed" s_mixed ["_law_cell", "_law_k"]
  h_source : Has K mg "_law_source" s_source ["_law_cell"]
  h_next : Has K mg "_law_next" s_next ["_law_source_here", "_law_many"]
  h_deal : Has K mg "_law_deal" s_deal ["_law_kind", "_law_total", "_law_bounds", "_law_weights"]
  h_numbers : Has K mg "_law_numbers" s_numbers ["_law_source_here", "_law_many"]
  h_no_number : Has K mg "_law_no_number" s_no_number ["_law_source_here", "_law_kind"]
  h_no_list : Has K mg "_law_no_list" s_no_list ["_law_source_here", "_law_row"]
  h_spoilt : Has K mg "_law_spoilt" s_spoilt ["_law_source_here", "_law_kind", "_law_handed", "_law_way"]
  h_copy : Has K mg "_law_copy" s_copy ["_law_thing"]
  h_refused : Has K mg "_law_refused" s_refused ["_law_kind", "_law_handed"]
  h_told : Has K mg "_law_told" s_told ["_law_kind", "_law_total", "_law_bounds", "_law_weights"]
  e_NoNumber : ErrC K mg "NoNumber"
  c_NoNumber_NestError : Caught K mg "NoNumber" "NestError"
  kt_NoNumber_NoText : KitC K mg "NoNumber" "NoText" false
  kt_NoNumber_NoName : KitC K mg "NoNumber" "NoName" false
  kt_NoNumber_NoStyle : KitC K mg "NoNumber" "NoStyle" false
  kt_NoNumber_NoTrack : KitC K mg "NoNumber" "NoTrack" false
  kt_NoNumber_NoAsk : KitC K mg "NoNumber" "NoAsk" false
  kt_NoNumber_NoTree : KitC K mg "NoNumber" "NoTree" false
  kt_NoNumber_NoPlace : KitC K mg "NoNumber" "NoPlace" false
  kt_NoNumber_NoBox : KitC K mg "NoNumber" "NoBox" false
  kt_NoNumber_NoNumber : KitC K mg "NoNumber" "NoNumber" true
  kv_NoNumber_ValueError : PySem.W.kitOne K (.ref (clsA mg "NoNumber")) (.type "ValueError") = some true
  m_isinstance : mg "isinstance" = none
  m_int : mg "int" = none
  m_bool : mg "bool" = none
  m_len : mg "len" = none
  m_zip : mg "zip" = none
  m_sum : mg "sum" = none
  m_list : mg "list" = none
  m_enumerate : mg "enumerate" = none
  m_range : mg "range" = none
  m_tuple : mg "tuple" = none
  m_ValueError : mg "ValueError" = none
/-! ### the source of draws: a list of three numbers -/
def Src (H : Hp) (p : Addr) : Prop := ∃ a b c : Int, H p = some (.lst [.int a, .int b, .int c])
theorem Src.ne_new {H : Hp} {p q : Addr} (h : Src H p) (n : H q = none) : q ≠ p := by
  obtain ⟨a, b, c, e⟩ := h
  exact (ne_of_none e n).symm
theorem Src.keep {H : Hp} {p q : Addr} {o : HO} (h : Src H p) (n : H q = none) : Src (upd H q o) p := by
  obtain ⟨a, b, c, e⟩ := h
  exact ⟨a, b, c, by rw [upd_ne (ne_of_none e n)]; exact e⟩
theorem Src.same {H H' : Hp} {p : Addr} (h : Src H p) (s : Same H H') : Src H' p := by
  obtain ⟨a, b, c, e⟩ := h
  exact ⟨a, b, c, s _ _ e⟩
def spCellAt (K : PySem.W.Frag) : Sp := fun vs H Q _ => ∃ (l : Addr) (ns : List Int) (j : Nat), vs = [.ref l, .int (j : Int)] ∧ SqL K H l (ns.map V.int) ∧ ∀ z : Int, Q (.int z) H
def spMixed : Sp := fun vs H Q _ => ∃ c k : Int, vs = [.int c, .int k] ∧ ∀ r : Int, Q (.int r) H
def spSource : Sp := fun vs H Q _ => ∃ c : Int, vs = [.int c] ∧ ∀ p H', H p = none → Src H' p → Same H H' → Q (.ref p) H'
def spNext : Sp := fun vs H Q _ => ∃ (p : Addr) (m : Int), vs = [.ref p, .int m] ∧ 0 < m ∧ m < 2 ^ 100 ∧ Src H p ∧ ∀ (r : Int) H', 0 ≤ r → r < m → Src H' p → Off p H H' → Q (.int r) H'
section
variable {P : Program} {w : World} {K : PySem.W.Frag} {mg : Str → Option Value} {base : Heap}
theorem ok_cell_at (T : Txt K mg) : Ok P w K mg base CX0 "_law_cell_at" s_cell_at 1 ["_law_script", "_law_k"] (spCellAt K) := by
  refine T.h_cell_at.ok sc_cell_at (fun vs H Q E h => ?_) (fun f cdv A outer s H vs Q E hr h => ?_)
  · obtain ⟨l, ns, j, rfl, _⟩ := h; rfl
  obtain ⟨l, ns, j, rfl, hs, q⟩ := h
  refine ⟨_, (pss_cons (ps_if (pt_cmpR op_lt (pv 1) (pe_callB call_len (by rfl) T.m_len (by decide +kernel) (pa_cons (pv 0) pa_nil)) (nomark _))
      (pss_one (ps_ret (pe_ix ix_list (pv 0) (pv 1) (fun _ _ => rfl))))
      pss_nil)
      (pss_one (ps_ret pe_int))), ?_⟩
  refine ⟨_, rfl, _, rfl, _, _, rfl, .inl ⟨_, hs, rfl⟩, _, _, rfl, rfl, _, rfl, ite2 (fun e => ?_) (fun e => ?_)⟩
  · have e1 := of_decide_eq_true e
    obtain ⟨v, hv, ha⟩ := atI_mem (xs := ns.map V.int) (i := (j : Int)) (by omega) e1
    obtain ⟨z, _, rfl⟩ := List.mem_map.mp hv
    exact ⟨_, rfl, _, rfl, _, _, _, _, rfl, rfl, hs, ha, q z⟩
  · exact q 0
theorem ok_mixed (T : Txt K mg) : Ok P w K mg base CX0 "_law_mixed" s_mixed 1 ["_law_cell", "_law_k"] spMixed := by
  refine T.h_mixed.ok sc_mixed (fun vs H Q E h => ?_) (fun f cdv A outer s H vs Q E hr h => ?_)
  · obtain ⟨l, j, rfl, _⟩ := h; rfl
  obtain ⟨c, k, rfl, q⟩ := h
  refine ⟨_, (pss_cons (ps_set (i := 2) sc_mixed.nd rfl (by first | exact Or.inl rfl | exact Or.inr rfl) (pe_op op_add (pe_op op_mod (pv 0) pe_int) (pe_op op_mul (pe_op op_fdivW (pv 0) pe_int) pe_int)))
      (pss_cons (ps_set (i := 2) sc_mixed.nd rfl (by first | exact Or.inl rfl | exact Or.inr rfl) (pe_op op_mod (pe_op op_mul (pe_op op_add (pe_op op_add (pv 2) (pe_op op_mul pe_int (pv 1))) pe_int) pe_int) pe_int))
      (pss_cons (ps_set (i := 2) sc_mixed.nd rfl (by first | exact Or.inl rfl | exact Or.inr rfl) (pe_op op_mod (pe_op op_mul (pv 2) (pe_op op_add (pe_op op_add (pe_op op_fdiv (pv 2) pe_int) pe_int) (pv 1))) pe_int))
      (pss_one (ps_ret (pe_op op_mod (pe_op op_mul (pv 2) (pe_op op_add (pe_op op_fdiv (pv 2) pe_int) pe_int)) pe_int)))))), ?_⟩
  refine ⟨_, rfl, _, _, rfl, rfl, (by show (0 : Int) < 2147483563; decide), _, rfl, _, _, rfl, rfl, wide_div (b := 40) (by decide) (by decide) (by decide) (by decide), _, _, rfl, rfl, .inr ⟨by decide, by decide⟩, _, _, rfl, rfl, ?_⟩
  refine ⟨_, rfl, _, rfl, _, _, rfl, rfl, .inl ⟨by decide, by decide⟩, _, _, rfl, rfl, _, _, rfl, rfl, _, _, rfl, rfl, .inr ⟨by decide, by decide⟩, _, _, rfl, rfl, (by show (0 : Int) < 2147483563; decide), ?_⟩
  have m1 : ∀ a : Int, (0 : Int) ≤ a % 2147483563 ∧ a % 2147483563 < 2147483563 := fun a => ⟨Int.emod_nonneg a (by decide), Int.emod_lt_of_pos a (by decide)⟩
  have m2 : ∀ a : Int, (0 : Int) ≤ a % 2147483549 ∧ a % 2147483549 < 2147483549 := fun a => ⟨Int.emod_nonneg a (by decide), Int.emod_lt_of_pos a (by decide)⟩
  generalize hx : ((c % 2147483563 + c / 2147483563 * 40009 + 52711 * k + 1) * 39373) % 2147483563 = x
  have b1 := m1 ((c % 2147483563 + c / 2147483563 * 40009 + 52711 * k + 1) * 39373)
  rw [hx] at b1
  refine ⟨_, rfl, _, rfl, _, _, rfl, rfl, ⟨by decide, by decide⟩, _, _, rfl, rfl, _, rfl, _, _, rfl, rfl, _, _, rfl, rfl, .inl ⟨by omega, by omega⟩, _, _, rfl, rfl, (by show (0 : Int) < 2147483549; decide), ?_⟩
  generalize hy : (x * (x / 1019 + 20011 + k)) % 2147483549 = y
  have b2 := m2 (x * (x / 1019 + 20011 + k))
  rw [hy] at b2
  refine ⟨_, rfl, _, rfl, _, _, rfl, rfl, ⟨by decide, by decide⟩, _, _, rfl, rfl, _, _, rfl, rfl, .inl ⟨by omega, by omega⟩, _, _, rfl, rfl, (by show (0 : Int) < 2147483497; decide), ?_⟩
  exact q _
theorem ok_source (T : Txt K mg) : Ok P w K mg base CX0 "_law_source" s_source 1 ["_law_cell"] spSource := by
  refine T.h_source.ok sc_source (fun vs H Q E h => ?_) (fun f cdv A outer s H vs Q E hr h => ?_)
  · obtain ⟨c, rfl, _⟩ := h; rfl
  obtain ⟨c, rfl, q⟩ := h
  refine ⟨_, (pss_one (ps_ret (pe_lst (pa_cons (pv 0) (pa_cons (pv 0) (pa_cons pe_int pa_nil)))))), ?_⟩
  refine ⟨_, rfl, _, rfl, (by show 3 ≤ sizeLine; decide), fun p np => ?_⟩
  exact q p _ np ⟨c, c, 0, upd_same⟩ (same_upd np)
theorem ok_next (T : Txt K mg) : Ok P w K mg base CX0 "_law_next" s_next 2 ["_law_source_here", "_law_many"] spNext := by
  have O_mixed := ok_mixed (P := P) (w := w) (base := base) T
  refine T.h_next.ok sc_next (fun vs H Q E h => ?_) (fun f cdv A outer s H vs Q E hr h => ?_)
  · obtain ⟨p, m, rfl, _⟩ := h; rfl
  obtain ⟨p, m, rfl, m0, m1, ⟨a, b, c, hp⟩, q⟩ := h
  have sq : SqL K H p [.int a, .int b, .int c] := .of hp
  have a0 : atI [V.int a, V.int b, V.int c] 0 = some (.int a) := atI_nat (j := 0) rfl
  have a1 : atI [V.int a, V.int b, V.int c] 1 = some (.int b) := atI_nat (j := 1) rfl
  have a2 : atI [V.int a, V.int b, V.int c] 2 = some (.int c) := atI_nat (j := 2) rfl
  have hm : CDivW a m := wide_div (b := 100) m0 (by omega) (by decide) (by decide)
  refine ⟨_, (pss_cons (ps_if (pt_cmpR op_ge (pe_ix ix_list (pv 0) pe_int (fun _ _ => rfl)) (pe_op op_pow pe_int pe_int) (nomark _))
      (pss_cons (ps_set (i := 2) sc_next.nd rfl (by first | exact Or.inl rfl | exact Or.inr rfl) (pe_op op_mod (pe_ix ix_list (pv 0) pe_int (fun _ _ => rfl)) (pv 1)))
      (pss_cons (ps_asg (pe_op op_fdivW (pe_ix ix_list (pv 0) pe_int (fun _ _ => rfl)) (pv 1)) (pg_sub (pv 0) pe_int set_list))
      (pss_one (ps_ret (pv 2)))))
      pss_nil)
      (pss_cons (ps_asg (pe_op op_add (pe_ix ix_list (pv 0) pe_int (fun _ _ => rfl)) pe_int) (pg_sub (pv 0) pe_int set_list))
      (pss_one (ps_ret (pe_op op_mod (callO O_mixed (hr.mono (by decide)) (by rfl) (pa_cons (pe_ix ix_list (pv 0) pe_int (fun _ _ => rfl)) (pa_cons (pe_ix ix_list (pv 0) pe_int (fun _ _ => rfl)) pa_nil))) (pv 1)))))), ?_⟩
  refine ⟨_, rfl, _, _, _, _, rfl, rfl, sq, a0, _, _, rfl, rfl, ⟨by decide, by decide, by decide⟩, _, _, rfl, rfl, _, rfl, ite2 (fun _ => ?_) (fun _ => ?_)⟩
  · refine ⟨_, rfl, _, _, _, _, rfl, rfl, sq, a0, _, rfl, _, _, rfl, rfl, m0, _, rfl, _, _, _, _, rfl, rfl, sq, a0, _, rfl, _, _, rfl, rfl, hm, _, rfl, _, _, _, 0, rfl, rfl, hp, rfl, _, rfl, ?_⟩
    exact q _ _ (Int.emod_nonneg _ (by omega)) (Int.emod_lt_of_pos _ m0) ⟨_, _, _, upd_same⟩ off_upd
  · refine ⟨_, rfl, _, _, _, _, rfl, rfl, sq, a2, _, _, rfl, rfl, _, rfl, _, _, _, 2, rfl, rfl, hp, rfl, ?_⟩
    have hp2 : (upd H p (.lst [.int a, .int b, .int (c + 1)])) p = some (.lst [.int a, .int b, .int (c + 1)]) := upd_same
    have sq2 : SqL K (upd H p (.lst [.int a, .int b, .int (c + 1)])) p [.int a, .int b, .int (c + 1)] := .of hp2
    refine ⟨_, rfl, _, _, _, _, rfl, rfl, sq2, atI_nat (j := 1) rfl, _, rfl, _, _, _, _, rfl, rfl, sq2, atI_nat (j := 2) rfl, _, _, rfl, fun r => ?_⟩
    refine ⟨_, rfl, _, _, rfl, rfl, m0, ?_⟩
    exact q _ _ (Int.emod_nonneg _ (by omega)) (Int.emod_lt_of_pos _ m0) ⟨_, _, _, upd_same⟩ off_upd
end

/-! ### the cells that a law walks -/
theorem cells_it {K : PySem.W.Frag} {σ : L2.St} {H : Hp} {a : Addr} {ns : List Int} {n : Int} {R : It → Hp → Prop} (h0 : σ[0]? = some (some (.ref a))) (hS : SqL K H a (ns.map V.int)) (hl : ns.length ≤ 63)
    (k : ∀ (L : Addr) (zs : List Int) (HB : Hp), HB L = some (.lst (zs.map V.int)) → Same H HB → R (Itl K L) HB) :
    iList K (tOp rCat (tLst (tCons (tCall (spCellAt K) [] E0 (tCons (tVar 0) (tCons (tC (.int 0)) tNil))) tNil)) (tSl (rSlL K) (tVar 0) (tPart (tC (.int 1))) (tPart (tC (.int n))))) σ H R := by
  refine ⟨_, h0, a, ns, 0, rfl, hS, fun z0 => ⟨(by show 1 ≤ sizeLine; decide), fun p1 n1 => ?_⟩⟩
  obtain ⟨ms, hms, ecut⟩ := cut_ints ns (some 1) (some n)
  refine ⟨_, h0, 1, rfl, n, rfl, a, ns.map V.int, rfl, (same_upd n1).seq hS, fun p2 n2 => ?_⟩
  have g1 : (upd (upd H p1 (.lst [.int z0])) p2 (.lst (cutV (ns.map V.int) (some 1) (some n)))) p1 = some (.lst [.int z0]) := by
    rw [upd_ne (ne_of_none upd_same n2)]
    exact upd_same
  refine ⟨p1, p2, _, _, rfl, rfl, g1, upd_same, ?_, fun L nL => ?_⟩
  · rw [ecut, List.length_map]
    show 1 + ms.length ≤ sizeLine
    exact Nat.le_trans (by omega : 1 + ms.length ≤ 64) (by decide)
  have sB := (same_upd (o := .lst [.int z0]) n1).trans ((same_upd n2).trans (same_upd (o := .lst ([V.int z0] ++ cutV (ns.map V.int) (some 1) (some n))) nL))
  refine ⟨L, rfl, ⟨_, .of upd_same⟩, k L (z0 :: ms) _ ?_ sB⟩
  rw [upd_same, ecut]
  rfl
/-- what a for asks of the thing that it walks -/
def forR (g : TG) (tb : TS) (D : Ends) (σ : L2.St) (J : It) (H1 : Hp) : Prop :=
  ∃ W : Nat → Nat → L2.St → Hp → Prop, (∃ m, W 0 m σ H1) ∧ ∀ i m σ H, W i m σ H → (J.stop i H ∧ D.nx σ H) ∨
    (J.go i H ∧ ∃ N : L2.St → Hp → Prop, (∀ σ' H', N σ' H' → ∃ m', m' < m ∧ W (i + 1) m' σ' H') ∧ ∀ x H', J.yld i H x H' → g x σ H' fun σ2 H2 => tb { D with nx := N, ct := N, bk := D.nx } σ2 H2)
theorem cells_for {K : PySem.W.Frag} {σ : L2.St} {H : Hp} {a : Addr} {ns : List Int} {n : Int} {g : TG} {tb u : TS} {D : Ends} (h0 : σ[0]? = some (some (.ref a))) (hS : SqL K H a (ns.map V.int)) (hl : ns.length ≤ 63)
    (k : ∀ (L : Addr) (zs : List Int) (HB : Hp), HB L = some (.lst (zs.map V.int)) → Same H HB → forR g tb { D with nx := u D } σ (Itl K L) HB) :
    tSeq (tFor (iList K (tOp rCat (tLst (tCons (tCall (spCellAt K) [] E0 (tCons (tVar 0) (tCons (tC (.int 0)) tNil))) tNil)) (tSl (rSlL K) (tVar 0) (tPart (tC (.int 1))) (tPart (tC (.int n)))))) g tb) u D σ H :=
  cells_it (R := forR g tb { D with nx := u D } σ) h0 hS hl k

/-! ### levels: pairs of a limit and a weight -/
abbrev Pr := Option Int × Int
def lim (x : Pr) : Int := x.1.getD 0
def sumW (l : List Pr) : Int := (l.map fun x => x.2).sum
def sumL (l : List Pr) : Int := (l.map lim).sum
def bnd : Bool → Pr → Int → Int → Bool
  | true, (none, _), _, _ => false
  | true, (some c, w), top, bot => decide (c * bot ≤ top * w)
  | false, (c, w), top, bot => decide (top * w ≤ c.getD 0 * bot)
theorem bnd_cap {x : Pr} {top bot : Int} (h : bnd true x top bot = true) : x.1 ≠ none ∧ lim x * bot ≤ top * x.2 := by
  obtain ⟨c, w⟩ := x
  cases c with
  | none => cases h
  | some c => exact ⟨by simp, of_decide_eq_true h⟩
theorem bnd_cap_of {x : Pr} {top bot : Int} (h1 : x.1 ≠ none) (h : lim x * bot ≤ top * x.2) : bnd true x top bot = true := by
  obtain ⟨c, w⟩ := x
  cases c with
  | none => exact absurd rfl h1
  | some c => exact decide_eq_true h
theorem bnd_flo {x : Pr} {top bot : Int} (h : bnd false x top bot = true) : top * x.2 ≤ lim x * bot := of_decide_eq_true h
theorem bnd_flo_of {x : Pr} {top bot : Int} (h : top * x.2 ≤ lim x * bot) : bnd false x top bot = true := decide_eq_true h
theorem sum_split (f : Pr → Int) (p b : Pr → Bool) : ∀ l : List Pr, ((l.filter p).map f).sum = ((l.filter fun x => p x && b x).map f).sum + ((l.filter fun x => p x && !b x).map f).sum
  | [] => rfl
  | x :: r => by
    have ih := sum_split f p b r
    cases hp : p x <;> cases hb : b x <;> simp [List.filter_cons, hp, hb] <;> omega
theorem sum_split1 (f : Pr → Int) (p : Pr → Bool) : ∀ l : List Pr, (l.map f).sum = ((l.filter p).map f).sum + ((l.filter fun x => !p x).map f).sum
  | [] => rfl
  | x :: r => by
    have ih := sum_split1 f p r
    cases hp : p x <;> simp [List.filter_cons, hp] <;> omega
theorem sum_nonneg {α : Type} (f : α → Int) : ∀ (l : List α), (∀ x ∈ l, 0 ≤ f x) → 0 ≤ (l.map f).sum
  | [], _ => by simp
  | x :: r, h => by
    have h1 := h x List.mem_cons_self
    have h2 := sum_nonneg f r fun y hy => h y (List.mem_cons_of_mem _ hy)
    simp only [List.map_cons, List.sum_cons]
    omega
/-- Σ a · W ≤ room · Σ w, from each one -/
theorem sum_mul_le (a b : Pr → Int) (u v : Int) : ∀ (l : List Pr), (∀ x ∈ l, a x * u ≤ v * b x) → (l.map a).sum * u ≤ v * (l.map b).sum
  | [], _ => by simp
  | x :: r, h => by
    have h1 := h x List.mem_cons_self
    have h2 := sum_mul_le a b u v r fun y hy => h y (List.mem_cons_of_mem _ hy)
    simp only [List.map_cons, List.sum_cons]
    rw [Int.add_mul, Int.mul_add]
    omega
theorem sum_mul_ge (a b : Pr → Int) (u v : Int) : ∀ (l : List Pr), (∀ x ∈ l, v * b x ≤ a x * u) → v * (l.map b).sum ≤ (l.map a).sum * u
  | [], _ => by simp
  | x :: r, h => by
    have h1 := h x List.mem_cons_self
    have h2 := sum_mul_ge a b u v r fun y hy => h y (List.mem_cons_of_mem _ hy)
    simp only [List.map_cons, List.sum_cons]
    rw [Int.add_mul, Int.mul_add]
    omega
structure Good (ps : List Pr) : Prop where
  w0 : ∀ x ∈ ps, 0 ≤ x.2
  l0 : ∀ x ∈ ps, 0 ≤ lim x
structure Lev (cap : Bool) (total : Int) (ps : List Pr) (p : Pr → Bool) (room W : Int) : Prop where
  pos : ∀ x ∈ ps, p x = true → 0 < x.2
  eW : W = sumW (ps.filter p)
  eR : room = total - sumL (ps.filter fun x => !p x)
  w0 : 0 < W
  r0 : 0 ≤ room
  stay : ∀ x ∈ ps, 0 < x.2 → p x = false → bnd cap x room W = true
  known : ∀ x ∈ ps, p x = false → x.1 ≠ none
  over : if cap = true then (∃ x ∈ ps, p x = true ∧ x.1 = none) ∨ room < sumL (ps.filter p) else (∀ x ∈ ps, x.1 ≠ none) ∧ sumL (ps.filter p) < room
theorem filter_pos {ps : List Pr} {p : Pr → Bool} (h : ∀ x ∈ ps, p x = true → 0 < x.2) (hn : ∃ x ∈ ps, p x = true) : 0 < sumW (ps.filter p) := by
  obtain ⟨x, hx, px⟩ := hn
  have hm : x ∈ ps.filter p := List.mem_filter.mpr ⟨hx, px⟩
  obtain ⟨s, t, e⟩ := List.append_of_mem hm
  unfold sumW
  rw [e, List.map_append, List.sum_append, List.map_cons, List.sum_cons]
  have hx := h x hx px
  have hall : ∀ y ∈ ps.filter p, 0 ≤ y.2 := fun y hy => by
    have := h y (List.mem_filter.mp hy).1 (List.mem_filter.mp hy).2
    omega
  rw [e] at hall
  have h1 := sum_nonneg (fun x : Pr => x.2) s fun y hy => hall y (List.mem_append_left _ hy)
  have h2 := sum_nonneg (fun x : Pr => x.2) t fun y hy => hall y (List.mem_append_right _ (List.mem_cons_of_mem _ hy))
  omega
theorem none_free {ps : List Pr} {p : Pr → Bool} (h : ¬ ∃ x ∈ ps, p x = true) : ps.filter p = [] := by
  rw [List.filter_eq_nil_iff]
  intro x hx px
  exact h ⟨x, hx, px⟩
section
variable {total : Int} {ps : List Pr} {p : Pr → Bool} {room W : Int}
theorem split_not (f : Pr → Int) (b : Pr → Bool) : ((ps.filter fun x => !(p x && !b x)).map f).sum = ((ps.filter fun x => !p x).map f).sum + ((ps.filter fun x => p x && b x).map f).sum := by
  have h1 := sum_split1 f p ps
  have h2 := sum_split1 f (fun x => p x && !b x) ps
  have h3 := sum_split f p b ps
  omega
theorem Lev.step {cap : Bool} (g : Good ps) (h : Lev cap total ps p room W) :
    Lev cap total ps (fun x => p x && !bnd cap x room W) (room - sumL (ps.filter fun x => p x && bnd cap x room W)) (W - sumW (ps.filter fun x => p x && bnd cap x room W)) := by
  have eW := h.eW
  have eR := h.eR
  have hw := h.w0
  have hr := h.r0
  have sW := sum_split (fun x => x.2) p (fun x => bnd cap x room W) ps
  have sL := sum_split lim p (fun x => bnd cap x room W) ps
  have nL := split_not (ps := ps) (p := p) lim (fun x => bnd cap x room W)
  have gW1 := sum_nonneg (fun x : Pr => x.2) (ps.filter fun x => p x && bnd cap x room W) fun x hx => g.w0 x (List.mem_filter.mp hx).1
  have gL1 := sum_nonneg lim (ps.filter fun x => p x && bnd cap x room W) fun x hx => g.l0 x (List.mem_filter.mp hx).1
  have gL2 := sum_nonneg lim (ps.filter fun x => p x && !bnd cap x room W) fun x hx => g.l0 x (List.mem_filter.mp hx).1
  have pos2 : ∀ x ∈ ps, (p x && !bnd cap x room W) = true → 0 < x.2 := fun x hx px => h.pos x hx (by simp at px; exact px.1)
  generalize hq : (ps.filter fun x => p x && bnd cap x room W) = q at sW sL nL gW1 gL1 ⊢
  have hqm : ∀ x ∈ q, x ∈ ps ∧ p x = true ∧ bnd cap x room W = true := fun x hx => by
    rw [← hq] at hx
    have h1 := List.mem_filter.mp hx
    have h2 := h1.2
    simp at h2
    exact ⟨h1.1, h2.1, h2.2⟩
  generalize hf : (ps.filter fun x => p x && !bnd cap x room W) = f at sW sL gL2
  have nf : f = [] ∨ 0 < sumW f := by
    by_cases hn : ∃ x ∈ ps, (p x && !bnd cap x room W) = true
    · right
      rw [← hf]
      exact filter_pos pos2 hn
    · left
      rw [← hf]
      exact none_free hn
  have eW2 : W - sumW q = sumW f := by
    unfold sumW at eW ⊢
    omega
  have eR2 : room - sumL q = total - sumL (ps.filter fun x => !(p x && !bnd cap x room W)) := by
    unfold sumL at eR ⊢
    omega
  have kn : ∀ x ∈ ps, (p x && !bnd cap x room W) = false → x.1 ≠ none := fun x hx hp => by
    cases cap with
    | false => exact (by simpa using h.over : (∀ x ∈ ps, x.1 ≠ none) ∧ _).1 x hx
    | true =>
      cases e : p x with
      | false => exact h.known x hx e
      | true =>
        rw [e] at hp
        have h1 : bnd true x room W = true := by
          cases e3 : bnd true x room W with
          | true => rfl
          | false => rw [e3] at hp; cases hp
        exact (bnd_cap h1).1
  cases cap with
  | true =>
    have key : sumL q * W ≤ room * sumW q := sum_mul_le lim (fun x => x.2) W room q fun x hx => (bnd_cap (hqm x hx).2.2).2
    have hqW : sumW q ≤ W := by
      rcases nf with h0 | h0
      · rw [h0] at eW2
        have : sumW [] = 0 := rfl
        omega
      · omega
    have hLr : sumL q ≤ room := by
      have h1 : room * sumW q ≤ room * W := Int.mul_le_mul_of_nonneg_left hqW hr
      exact Int.le_of_mul_le_mul_right (Int.le_trans key h1) hw
    have ov : (∃ x ∈ ps, (p x && !bnd true x room W) = true ∧ x.1 = none) ∨ room - sumL q < sumL f := by
      have := h.over
      simp only [if_true] at this
      rcases this with ⟨x, hx, px, nx⟩ | h1
      · left
        refine ⟨x, hx, ?_, nx⟩
        rw [px]
        obtain ⟨c, w⟩ := x
        simp only at nx
        subst nx
        rfl
      · right
        unfold sumL at h1 ⊢
        omega
    have w2 : 0 < W - sumW q := by
      rcases nf with h0 | h0
      · exfalso
        rcases ov with ⟨x, hx, px, _⟩ | h1
        · have : x ∈ f := by
            rw [← hf]
            exact List.mem_filter.mpr ⟨hx, px⟩
          rw [h0] at this
          cases this
        · rw [h0] at h1
          have : sumL [] = 0 := rfl
          omega
      · omega
    refine ⟨pos2, by rw [eW2, hf], eR2, w2, by omega, ?_, kn, ?_⟩
    · intro x hx hx0 hp
      have hk := kn x hx hp
      have h1 : lim x * W ≤ room * x.2 := by
        cases e : p x with
        | false => exact (bnd_cap (h.stay x hx hx0 e)).2
        | true =>
          rw [e] at hp
          have h1 : bnd true x room W = true := by
            cases e3 : bnd true x room W with
            | true => rfl
            | false => rw [e3] at hp; cases hp
          exact (bnd_cap h1).2
      refine bnd_cap_of hk ?_
      have h2 : room * (W - sumW q) ≤ (room - sumL q) * W := by
        rw [Int.mul_sub, Int.sub_mul]
        omega
      have h3 : lim x * W * (W - sumW q) ≤ room * x.2 * (W - sumW q) := Int.mul_le_mul_of_nonneg_right h1 (by omega)
      have h4 : x.2 * (room * (W - sumW q)) ≤ x.2 * ((room - sumL q) * W) := Int.mul_le_mul_of_nonneg_left h2 (by omega)
      have e1 : lim x * W * (W - sumW q) = lim x * (W - sumW q) * W := by
        rw [Int.mul_assoc, Int.mul_comm W, ← Int.mul_assoc]
      have e2 : room * x.2 * (W - sumW q) = x.2 * (room * (W - sumW q)) := by
        rw [Int.mul_comm room x.2, Int.mul_assoc]
      have e3 : x.2 * ((room - sumL q) * W) = (room - sumL q) * x.2 * W := by
        rw [← Int.mul_assoc, Int.mul_comm x.2]
      rw [e1, e2] at h3
      rw [e3] at h4
      exact Int.le_of_mul_le_mul_right (Int.le_trans h3 h4) hw
    · rw [if_pos rfl, hf]
      exact ov
  | false =>
    have ov0 : (∀ x ∈ ps, x.1 ≠ none) ∧ sumL (ps.filter p) < room := by simpa using h.over
    have key : room * sumW q ≤ sumL q * W := sum_mul_ge lim (fun x => x.2) W room q fun x hx => bnd_flo (hqm x hx).2.2
    have ov : sumL f < room - sumL q := by
      have := ov0.2
      unfold sumL at this ⊢
      omega
    have w2 : 0 < W - sumW q := by
      rcases nf with h0 | h0
      · exfalso
        rw [h0] at ov eW2
        have z1 : sumL [] = 0 := rfl
        have z2 : sumW [] = 0 := rfl
        have : sumW q = W := by omega
        rw [this] at key
        have := Int.le_of_mul_le_mul_right key hw
        omega
      · omega
    have r2 : 0 ≤ room - sumL q := by
      unfold sumL at ov ⊢
      omega
    refine ⟨pos2, by rw [eW2, hf], eR2, w2, r2, ?_, kn, ?_⟩
    · intro x hx hx0 hp
      have h1 : room * x.2 ≤ lim x * W := by
        cases e : p x with
        | false => exact bnd_flo (h.stay x hx hx0 e)
        | true =>
          rw [e] at hp
          have h1 : bnd false x room W = true := by
            cases e3 : bnd false x room W with
            | true => rfl
            | false => rw [e3] at hp; cases hp
          exact bnd_flo h1
      refine bnd_flo_of ?_
      have h2 : (room - sumL q) * W ≤ room * (W - sumW q) := by
        rw [Int.mul_sub, Int.sub_mul]
        omega
      have h3 : room * x.2 * (W - sumW q) ≤ lim x * W * (W - sumW q) := Int.mul_le_mul_of_nonneg_right h1 (by omega)
      have h4 : x.2 * ((room - sumL q) * W) ≤ x.2 * (room * (W - sumW q)) := Int.mul_le_mul_of_nonneg_left h2 (by omega)
      have e1 : lim x * W * (W - sumW q) = lim x * (W - sumW q) * W := by
        rw [Int.mul_assoc, Int.mul_comm W, ← Int.mul_assoc]
      have e2 : room * x.2 * (W - sumW q) = x.2 * (room * (W - sumW q)) := by
        rw [Int.mul_comm room x.2, Int.mul_assoc]
      have e3 : x.2 * ((room - sumL q) * W) = (room - sumL q) * x.2 * W := by
        rw [← Int.mul_assoc, Int.mul_comm x.2]
      rw [e1, e2] at h3
      rw [e3] at h4
      exact Int.le_of_mul_le_mul_right (Int.le_trans h4 h3) hw
    · rw [if_neg (by decide), hf]
      exact ⟨ov0.1, ov⟩
end
/-- who gets level times weight -/
def free (cap : Bool) (room W : Int) (x : Pr) : Bool := decide (0 < x.2) && !bnd cap x room W
structure Fix (cap : Bool) (total : Int) (ps : List Pr) (room W : Int) : Prop where
  eW : W = sumW (ps.filter (free cap room W))
  eR : room = total - sumL (ps.filter fun x => !free cap room W x)
  w0 : 0 < W
  r0 : 0 ≤ room
  known : ∀ x ∈ ps, free cap room W x = false → x.1 ≠ none
theorem Lev.same {cap : Bool} {total : Int} {ps : List Pr} {p : Pr → Bool} {room W : Int} (h : Lev cap total ps p room W) (hn : ∀ x ∈ ps, p x = true → bnd cap x room W = false) : ∀ x ∈ ps, p x = free cap room W x := fun x hx => by
  unfold free
  cases e : p x with
  | true => rw [hn x hx e, decide_eq_true (h.pos x hx e)]; rfl
  | false =>
    by_cases h0 : 0 < x.2
    · rw [h.stay x hx h0 e, decide_eq_true h0]
      rfl
    · rw [decide_eq_false h0]
      rfl
theorem Lev.fix {cap : Bool} {total : Int} {ps : List Pr} {p : Pr → Bool} {room W : Int} (h : Lev cap total ps p room W) (hn : ∀ x ∈ ps, p x = true → bnd cap x room W = false) : Fix cap total ps room W := by
  have hs := h.same hn
  have e1 : ps.filter p = ps.filter (free cap room W) := List.filter_congr hs
  have e2 : (ps.filter fun x => !p x) = ps.filter fun x => !free cap room W x := List.filter_congr fun x hx => by rw [hs x hx]
  exact ⟨by rw [← e1]; exact h.eW, by rw [← e2]; exact h.eR, h.w0, h.r0, fun x hx hp => h.known x hx (by rw [hs x hx]; exact hp)⟩
/-- the parts -/
def runs (room W : Int) : Int → List Int → List Int
  | _, [] => []
  | cum, w :: r => (room * (cum + w) / W - room * cum / W) :: runs room W (cum + w) r
theorem runs_snoc (room W : Int) : ∀ (l : List Int) (cum w : Int), runs room W cum (l ++ [w]) = runs room W cum l ++ [room * (cum + l.sum + w) / W - room * (cum + l.sum) / W]
  | [], cum, w => by simp [runs]
  | v :: r, cum, w => by
    show _ :: runs room W (cum + v) (r ++ [w]) = _ :: (runs room W (cum + v) r ++ _)
    rw [runs_snoc room W r (cum + v) w, List.sum_cons, Int.add_assoc cum v]
theorem runs_len (room W : Int) : ∀ (l : List Int) (cum : Int), (runs room W cum l).length = l.length
  | [], _ => rfl
  | v :: r, cum => by
    show (runs room W (cum + v) r).length + 1 = _
    rw [runs_len room W r]
    rfl
def runP (room W : Int) (f : Pr → Bool) : Int → List Pr → List Int
  | _, [] => []
  | cum, x :: r => if f x = true then (room * (cum + x.2) / W - room * cum / W) :: runP room W f (cum + x.2) r else lim x :: runP room W f cum r
def setAll {α : Type} : List α → List (Nat × α) → List α
  | l, [] => l
  | l, (i, v) :: r => setAll (l.set i v) r
theorem setAll_snoc {α : Type} : ∀ (q : List (Nat × α)) (l : List α) (i : Nat) (v : α), setAll l (q ++ [(i, v)]) = (setAll l q).set i v
  | [], _, _, _ => rfl
  | (j, u) :: r, l, i, v => setAll_snoc r (l.set j u) i v
theorem setAll_len {α : Type} : ∀ (q : List (Nat × α)) (l : List α), (setAll l q).length = l.length
  | [], _ => rfl
  | (j, u) :: r, l => by
    show (setAll (l.set j u) r).length = _
    rw [setAll_len r]
    simp
theorem setAll_run {α : Type} (room W : Int) (f : Pr → Bool) (e : Int → α) (o : Pr → α) : ∀ (ps : List Pr) (pre : List α) (cum : Int), (∀ x ∈ ps, f x = false → o x = e (lim x)) →
    setAll (pre ++ ps.map o) ((((ps.zipIdx pre.length).filter fun x => f x.1).map fun x => x.2).zip ((runs room W cum (((ps.zipIdx pre.length).filter fun x => f x.1).map fun x => x.1.2)).map e)) = pre ++ (runP room W f cum ps).map e
  | [], pre, cum, _ => rfl
  | x :: r, pre, cum, h => by
    have hr : ∀ y ∈ r, f y = false → o y = e (lim y) := fun y hy => h y (List.mem_cons_of_mem _ hy)
    rw [List.zipIdx_cons]
    cases hf : f x with
    | true =>
      have ih := setAll_run room W f e o r (pre ++ [e (room * (cum + x.2) / W - room * cum / W)]) (cum + x.2) hr
      rw [List.length_append, List.length_singleton] at ih
      rw [List.filter_cons_of_pos (by exact hf)]
      show setAll ((pre ++ (o x :: r.map o)).set pre.length _) _ = _
      have es : ∀ v : α, (pre ++ (o x :: r.map o)).set pre.length v = pre ++ (v :: r.map o) := fun v => by simp
      rw [es]
      unfold runP
      rw [if_pos hf, List.map_cons]
      rw [List.append_assoc, List.append_assoc] at ih
      exact ih
    | false =>
      have ih := setAll_run room W f e o r (pre ++ [e (lim x)]) cum hr
      rw [List.length_append, List.length_singleton] at ih
      rw [List.filter_cons_of_neg (by rw [hf]; decide)]
      unfold runP
      rw [if_neg (by rw [hf]; decide), List.map_cons, List.map_cons, h x List.mem_cons_self hf]
      rw [List.append_assoc, List.append_assoc] at ih
      exact ih

/-! ### one level and no other -/
def val (cap : Bool) (top bot : Int) (x : Pr) : Int := if free cap top bot x = true then top * x.2 else lim x * bot
structure Val (cap : Bool) (total : Int) (ls : List Pr) (top bot : Int) : Prop where
  b0 : 0 < bot
  t0 : 0 ≤ top
  sum : (ls.map (val cap top bot)).sum = total * bot
  fr : ∃ x ∈ ls, free cap top bot x = true
theorem free_iff {cap : Bool} {top bot : Int} {x : Pr} : free cap top bot x = true ↔ 0 < x.2 ∧ bnd cap x top bot = false := by
  unfold free
  rw [Bool.and_eq_true, decide_eq_true_eq, Bool.not_eq_true']
theorem sum_val (cap : Bool) (top bot : Int) : ∀ ls : List Pr, (ls.map (val cap top bot)).sum = top * sumW (ls.filter (free cap top bot)) + sumL (ls.filter fun x => !free cap top bot x) * bot
  | [] => by simp [sumW, sumL]
  | x :: r => by
    rw [List.map_cons, List.sum_cons, sum_val cap top bot r, List.filter_cons, List.filter_cons]
    unfold val sumW sumL
    cases h : free cap top bot x with
    | true =>
      simp only [if_true, Bool.not_true, Bool.false_eq_true, if_false, List.map_cons, List.sum_cons]
      rw [Int.mul_add]
      omega
    | false =>
      simp only [if_true, Bool.not_false, Bool.false_eq_true, if_false, List.map_cons, List.sum_cons]
      rw [Int.add_mul]
      omega
theorem Fix.val {cap : Bool} {total : Int} {ls : List Pr} {room W : Int} (h : Fix cap total ls room W) : Val cap total ls room W := by
  refine ⟨h.w0, h.r0, ?_, ?_⟩
  · rw [sum_val, ← h.eW]
    have e := h.eR
    generalize sumL (ls.filter fun x => !free cap room W x) = z at e
    rw [e, Int.sub_mul]
    omega
  · refine Classical.byContradiction fun hn => ?_
    have e := h.eW
    rw [none_free hn] at e
    have := h.w0
    have z : sumW [] = 0 := rfl
    omega
theorem sum_le_lt (f g : Pr → Int) : ∀ ls : List Pr, (∀ x ∈ ls, f x ≤ g x) → (ls.map f).sum ≤ (ls.map g).sum
  | [], _ => Int.le_refl _
  | x :: r, h => by
    have h1 := h x List.mem_cons_self
    have h2 := sum_le_lt f g r fun y hy => h y (List.mem_cons_of_mem _ hy)
    simp only [List.map_cons, List.sum_cons]
    omega
theorem sum_lt (f g : Pr → Int) {ls : List Pr} (h : ∀ x ∈ ls, f x ≤ g x) (hx : ∃ x ∈ ls, f x < g x) : (ls.map f).sum < (ls.map g).sum := by
  obtain ⟨x, hx, hlt⟩ := hx
  obtain ⟨s, t, e⟩ := List.append_of_mem hx
  rw [e] at h ⊢
  have h1 := sum_le_lt f g s fun y hy => h y (List.mem_append_left _ hy)
  have h2 := sum_le_lt f g t fun y hy => h y (List.mem_append_right _ (List.mem_cons_of_mem _ hy))
  rw [List.map_append, List.map_append, List.sum_append, List.sum_append, List.map_cons, List.map_cons, List.sum_cons, List.sum_cons]
  omega
theorem sum_mulr (f : Pr → Int) (k : Int) : ∀ ls : List Pr, (ls.map fun x => f x * k).sum = (ls.map f).sum * k
  | [] => by simp
  | x :: r => by
    rw [List.map_cons, List.map_cons, List.sum_cons, List.sum_cons, sum_mulr f k r, Int.add_mul]
theorem not_bnd_cap {x : Pr} {top bot : Int} (h : bnd true x top bot = false) (hk : x.1 ≠ none) : top * x.2 < lim x * bot := by
  refine Int.not_le.mp fun z => ?_
  rw [bnd_cap_of hk z] at h
  cases h
theorem not_bnd_flo {x : Pr} {top bot : Int} (h : bnd false x top bot = false) : lim x * bot < top * x.2 := by
  refine Int.not_le.mp fun z => ?_
  rw [bnd_flo_of z] at h
  cases h
theorem not_free_bnd {cap : Bool} {top bot : Int} {x : Pr} (hx : 0 < x.2) (h : free cap top bot x = false) : bnd cap x top bot = true := by
  cases e : bnd cap x top bot with
  | true => rfl
  | false => rw [free_iff.mpr ⟨hx, e⟩] at h; cases h
theorem Val.not_lt {cap : Bool} {total : Int} {ls : List Pr} {r1 w1 r2 w2 : Int} (h1 : Val cap total ls r1 w1) (h2 : Val cap total ls r2 w2) : ¬ r1 * w2 < r2 * w1 := by
  intro hlt
  have p1 := h1.b0
  have p2 := h2.b0
  have key : ∀ x ∈ ls, val cap r1 w1 x * w2 ≤ val cap r2 w2 x * w1 ∧ ((if cap = true then free cap r1 w1 x = true else free cap r2 w2 x = true) → val cap r1 w1 x * w2 < val cap r2 w2 x * w1) := fun x _ => by
    have c1 : r1 * x.2 * w2 = r1 * w2 * x.2 := by rw [Int.mul_assoc, Int.mul_comm x.2, ← Int.mul_assoc]
    have c2 : r2 * x.2 * w1 = r2 * w1 * x.2 := by rw [Int.mul_assoc, Int.mul_comm x.2, ← Int.mul_assoc]
    have c3 : lim x * w1 * w2 = lim x * w2 * w1 := by rw [Int.mul_assoc, Int.mul_comm w1, ← Int.mul_assoc]
    unfold val
    cases e1 : free cap r1 w1 x with
    | true =>
      obtain ⟨x0, b1⟩ := free_iff.mp e1
      have g1 : r1 * w2 * x.2 < r2 * w1 * x.2 := Int.mul_lt_mul_of_pos_right hlt x0
      cases e2 : free cap r2 w2 x with
      | true =>
        simp only [if_true]
        rw [c1, c2]
        exact ⟨by omega, fun _ => g1⟩
      | false =>
        have b2 := not_free_bnd x0 e2
        simp only [if_true, Bool.false_eq_true, if_false]
        cases cap with
        | true =>
          have hk := bnd_cap b2
          have g3 := Int.mul_lt_mul_of_pos_right (not_bnd_cap b1 hk.1) p2
          rw [c3] at g3
          exact ⟨by omega, fun _ => g3⟩
        | false =>
          have g3 := Int.mul_le_mul_of_nonneg_right (bnd_flo b2) (Int.le_of_lt p1)
          rw [c2] at g3
          rw [c1]
          exact ⟨by omega, fun z => by simp at z⟩
    | false =>
      cases e2 : free cap r2 w2 x with
      | true =>
        obtain ⟨x0, b2⟩ := free_iff.mp e2
        have g1 : r1 * w2 * x.2 < r2 * w1 * x.2 := Int.mul_lt_mul_of_pos_right hlt x0
        have b1 := not_free_bnd x0 e1
        simp only [if_true, Bool.false_eq_true, if_false]
        cases cap with
        | true =>
          have g3 := Int.mul_le_mul_of_nonneg_right (bnd_cap b1).2 (Int.le_of_lt p2)
          rw [c1] at g3
          rw [c2]
          exact ⟨by omega, fun z => by simp at z⟩
        | false =>
          have g3 := Int.mul_lt_mul_of_pos_right (not_bnd_flo b2) p1
          rw [← c3] at g3
          exact ⟨by omega, fun _ => g3⟩
      | false =>
        simp only [Bool.false_eq_true, if_false]
        rw [c3]
        exact ⟨Int.le_refl _, fun z => by cases cap <;> simp at z⟩
  have hex : ∃ x ∈ ls, val cap r1 w1 x * w2 < val cap r2 w2 x * w1 := by
    cases cap with
    | true =>
      obtain ⟨x, hx, e⟩ := h1.fr
      exact ⟨x, hx, (key x hx).2 (by simpa using e)⟩
    | false =>
      obtain ⟨x, hx, e⟩ := h2.fr
      exact ⟨x, hx, (key x hx).2 (by simpa using e)⟩
  have hs := sum_lt (fun x => val cap r1 w1 x * w2) (fun x => val cap r2 w2 x * w1) (fun x hx => (key x hx).1) hex
  rw [sum_mulr, sum_mulr, h1.sum, h2.sum, Int.mul_assoc, Int.mul_assoc, Int.mul_comm w1] at hs
  omega
theorem Val.unique {cap : Bool} {total : Int} {ls : List Pr} {r1 w1 r2 w2 : Int} (h1 : Val cap total ls r1 w1) (h2 : Val cap total ls r2 w2) : r1 * w2 = r2 * w1 := by
  have a := h1.not_lt h2
  have b := h2.not_lt h1
  omega
theorem bnd_same {cap : Bool} {r1 w1 r2 w2 : Int} (p1 : 0 < w1) (p2 : 0 < w2) (h : r1 * w2 = r2 * w1) (x : Pr) : bnd cap x r1 w1 = bnd cap x r2 w2 := by
  have c1 : r1 * x.2 * w2 = r1 * w2 * x.2 := by rw [Int.mul_assoc, Int.mul_comm x.2, ← Int.mul_assoc]
  have c2 : r2 * x.2 * w1 = r2 * w1 * x.2 := by rw [Int.mul_assoc, Int.mul_comm x.2, ← Int.mul_assoc]
  have c3 : lim x * w1 * w2 = lim x * w2 * w1 := by rw [Int.mul_assoc, Int.mul_comm w1, ← Int.mul_assoc]
  have k1 : lim x * w1 ≤ r1 * x.2 ↔ lim x * w2 ≤ r2 * x.2 := by
    constructor
    · intro a
      have := Int.mul_le_mul_of_nonneg_right a (Int.le_of_lt p2)
      rw [c1, h, ← c2, c3] at this
      exact Int.le_of_mul_le_mul_right this p1
    · intro a
      have := Int.mul_le_mul_of_nonneg_right a (Int.le_of_lt p1)
      rw [c2, ← h, ← c1, ← c3] at this
      exact Int.le_of_mul_le_mul_right this p2
  have k2 : r1 * x.2 ≤ lim x * w1 ↔ r2 * x.2 ≤ lim x * w2 := by
    constructor
    · intro a
      have := Int.mul_le_mul_of_nonneg_right a (Int.le_of_lt p2)
      rw [c1, h, ← c2, c3] at this
      exact Int.le_of_mul_le_mul_right this p1
    · intro a
      have := Int.mul_le_mul_of_nonneg_right a (Int.le_of_lt p1)
      rw [c2, ← h, ← c1, ← c3] at this
      exact Int.le_of_mul_le_mul_right this p2
  obtain ⟨c, w⟩ := x
  cases cap with
  | true =>
    cases c with
    | none => rfl
    | some c => exact decide_eq_decide.mpr k1
  | false => exact decide_eq_decide.mpr k2
theorem free_same {cap : Bool} {r1 w1 r2 w2 : Int} (p1 : 0 < w1) (p2 : 0 < w2) (h : r1 * w2 = r2 * w1) (x : Pr) : free cap r1 w1 x = free cap r2 w2 x := by
  unfold free
  rw [bnd_same p1 p2 h]
def low (room W : Int) : Int × Int := (((room.toNat / Nat.gcd room.toNat W.toNat : Nat) : Int), ((W.toNat / Nat.gcd room.toNat W.toNat : Nat) : Int))
theorem low_nat {r w t b : Nat} (h : r * b = t * w) (hg : Nat.gcd t b = 1) (hb : 0 < b) (hw : 0 < w) : r / Nat.gcd r w = t ∧ w / Nat.gcd r w = b := by
  have hd : b ∣ w := by
    have h1 : b ∣ t * w := ⟨r, by rw [← h, Nat.mul_comm]⟩
    exact Nat.Coprime.dvd_of_dvd_mul_left (Nat.Coprime.symm hg) h1
  obtain ⟨k, rfl⟩ := hd
  have hk : 0 < k := Nat.pos_of_mul_pos_left hw
  have hr : r = t * k := by
    have : r * b = t * k * b := by rw [h, Nat.mul_comm b k, Nat.mul_assoc]
    exact Nat.eq_of_mul_eq_mul_right hb this
  subst hr
  rw [Nat.gcd_mul_right, hg, Nat.one_mul]
  exact ⟨Nat.mul_div_cancel _ hk, Nat.mul_div_cancel _ hk⟩
theorem low_of {room W : Int} {t b : Nat} (h : room * (b : Int) = (t : Int) * W) (hg : Nat.gcd t b = 1) (hb : 0 < b) (hw : 0 < W) (hr : 0 ≤ room) : low room W = ((t : Int), (b : Int)) := by
  have e1 : (room.toNat : Int) = room := Int.toNat_of_nonneg hr
  have e2 : (W.toNat : Int) = W := Int.toNat_of_nonneg (Int.le_of_lt hw)
  have h2 : room.toNat * b = t * W.toNat := by
    have : ((room.toNat * b : Nat) : Int) = ((t * W.toNat : Nat) : Int) := by
      rw [Int.natCast_mul, Int.natCast_mul, e1, e2]
      exact h
    exact Int.ofNat.inj this
  obtain ⟨a1, a2⟩ := low_nat h2 hg hb (by omega)
  unfold low
  rw [a1, a2]
theorem low_pos {room W : Int} (hw : 0 < W) (hr : 0 ≤ room) : ∃ t b : Nat, low room W = ((t : Int), (b : Int)) ∧ Nat.gcd t b = 1 ∧ 0 < b ∧ room * (b : Int) = (t : Int) * W := by
  have e1 : (room.toNat : Int) = room := Int.toNat_of_nonneg hr
  have e2 : (W.toNat : Int) = W := Int.toNat_of_nonneg (Int.le_of_lt hw)
  have g0 : 0 < Nat.gcd room.toNat W.toNat := Nat.gcd_pos_of_pos_right _ (by omega)
  refine ⟨_, _, rfl, ?_, ?_, ?_⟩
  · exact Nat.gcd_div_gcd_div_gcd_of_pos_right (by omega)
  · exact Nat.div_pos (Nat.le_of_dvd (by omega) (Nat.gcd_dvd_right _ _)) g0
  · obtain ⟨k, hk⟩ := Nat.gcd_dvd_left room.toNat W.toNat
    obtain ⟨j, hj⟩ := Nat.gcd_dvd_right room.toNat W.toNat
    have d1 : room.toNat / Nat.gcd room.toNat W.toNat = k := by
      conv => lhs; lhs; rw [hk]
      exact Nat.mul_div_cancel_left _ g0
    have d2 : W.toNat / Nat.gcd room.toNat W.toNat = j := by
      conv => lhs; lhs; rw [hj]
      exact Nat.mul_div_cancel_left _ g0
    rw [d1, d2]
    have : room.toNat * j = k * W.toNat := by
      conv => lhs; rw [hk]
      conv => rhs; rw [hj]
      rw [Nat.mul_comm (Nat.gcd _ _) k, Nat.mul_assoc]
    have h3 : ((room.toNat * j : Nat) : Int) = ((k * W.toNat : Nat) : Int) := by rw [this]
    rw [Int.natCast_mul, Int.natCast_mul, e1, e2] at h3
    exact h3
/-- the parts, where all comes out whole -/
theorem runP_exact {room W top bot : Int} (hw : 0 < W) (h : room * bot = top * W) (f : Pr → Bool) : ∀ (ls : List Pr) (u : Int), (∀ x ∈ ls, ∃ k, x.2 = k * bot) → 0 < bot → runP room W f (u * bot) ls = ls.map fun x => if f x = true then top * (x.2 / bot) else lim x
  | [], _, _, _ => rfl
  | x :: r, u, hd, hb => by
    obtain ⟨k, hk⟩ := hd x List.mem_cons_self
    have hr : ∀ y ∈ r, ∃ k, y.2 = k * bot := fun y hy => hd y (List.mem_cons_of_mem _ hy)
    have q : ∀ v : Int, room * (v * bot) / W = top * v := fun v => by
      rw [Int.mul_comm v, ← Int.mul_assoc, h, Int.mul_assoc, Int.mul_comm W, ← Int.mul_assoc]
      exact Int.mul_ediv_cancel _ (by omega)
    have hx : x.2 / bot = k := by rw [hk]; exact Int.mul_ediv_cancel _ (by omega)
    unfold runP
    rw [List.map_cons]
    cases hf : f x with
    | true =>
      rw [if_pos rfl, if_pos rfl, hx, hk, ← Int.add_mul, q, q, runP_exact hw h f r (u + k) hr hb, Int.mul_add]
      congr 1
      omega
    | false =>
      rw [if_neg (by decide), if_neg (by decide), runP_exact hw h f r u hr hb]
theorem Val.over {total : Int} {ls : List Pr} {top bot : Int} (h : Val true total ls top bot) (hk : ∀ x ∈ ls, x.1 ≠ none) (hz : ∀ x ∈ ls, x.2 ≤ 0 → lim x * bot = val true top bot x) : total < sumL ls := by
  refine Int.not_le.mp fun z => ?_
  have b0 := h.b0
  have s := sum_lt (val true top bot) (fun x => lim x * bot) (ls := ls) (fun x hx => ?_) ?_
  · rw [h.sum, sum_mulr] at s
    have := Int.mul_le_mul_of_nonneg_right z (Int.le_of_lt b0)
    unfold sumL at this
    omega
  · by_cases hx0 : x.2 ≤ 0
    · rw [hz x hx hx0]
      exact Int.le_refl _
    · unfold val
      cases e : free true top bot x with
      | true => exact Int.le_of_lt (not_bnd_cap (free_iff.mp e).2 (hk x hx))
      | false => exact Int.le_refl _
  · obtain ⟨x, hx, e⟩ := h.fr
    refine ⟨x, hx, ?_⟩
    show val true top bot x < lim x * bot
    unfold val
    rw [if_pos e]
    exact not_bnd_cap (free_iff.mp e).2 (hk x hx)
theorem Val.under {total : Int} {ls : List Pr} {top bot : Int} (h : Val false total ls top bot) : sumL ls < total := by
  refine Int.not_le.mp fun z => ?_
  have b0 := h.b0
  have s := sum_lt (fun x => lim x * bot) (val false top bot) (ls := ls) (fun x hx => ?_) ?_
  · rw [h.sum, sum_mulr] at s
    have := Int.mul_le_mul_of_nonneg_right z (Int.le_of_lt b0)
    unfold sumL at this
    omega
  · show lim x * bot ≤ val false top bot x
    unfold val
    cases e : free false top bot x with
    | true => exact Int.le_of_lt (not_bnd_flo (free_iff.mp e).2)
    | false => exact Int.le_refl _
  · obtain ⟨x, hx, e⟩ := h.fr
    refine ⟨x, hx, ?_⟩
    show lim x * bot < val false top bot x
    unfold val
    rw [if_pos e]
    exact not_bnd_flo (free_iff.mp e).2

/-! ### comprehensions whose turns tell one value or none -/
theorem big {n : Nat} (h : n ≤ 16000000) : n < sizeLine := Nat.lt_of_le_of_lt h (by decide)
theorem bigl {n : Nat} (h : n ≤ 16000000) : n ≤ sizeLine := Nat.le_of_lt (big h)
theorem fm_succ {α β : Type} {as : List α} {F : α → Option β} {i : Nat} {a : α} (h : as[i]? = some a) : (as.take (i + 1)).filterMap F = (as.take i).filterMap F ++ (F a).toList := by
  rw [List.take_add_one, h, List.filterMap_append]
  cases e : F a <;> simp [List.filterMap_cons, e]
theorem fm_len {α β : Type} (F : α → Option β) (as : List α) (i : Nat) : ((as.take i).filterMap F).length ≤ as.length := by
  refine Nat.le_trans (List.length_filterMap_le _ _) ?_
  rw [List.length_take]
  omega
theorem same_mut {H1 H : Hp} {D : Addr} {o : HO} (n : H1 D = none) (s : Same H1 H) : Same H1 (upd H D o) := fun b x e => by
  rw [upd_ne (ne_of_none e n)]
  exact s _ _ e
section
variable {K : PySem.W.Frag} {α β γ : Type}
theorem lcF_list {a : Addr} {as : List α} (e : α → V) {j : Nat} {tt : TT} {te : TE} {vs : List Nat} {σ : L2.St} {H1 : Hp} {D : Addr} {Qd : Hp → Prop} (F : α → Option β) (e2 : β → V) (hS : SqL K H1 a (as.map e)) (nD : H1 D = none) (hz : as.length ≤ 40000)
    (hs : ∀ (i : Nat) x H (A : V → Hp → Prop) (B : Hp → Prop), as[i]? = some x → Same H1 H → (∀ z H', F x = some z → Same H H' → A (e2 z) H') → (∀ H', F x = none → Same H H' → B H') →
      wipe ((wipe σ vs).set j (some (e x))) vs = wipe σ vs ∧ tt ((wipe σ vs).set j (some (e x))) H fun b H3 => if b = true then te ((wipe σ vs).set j (some (e x))) H3 A else B H3)
    (hd : ∀ H, Same H1 H → H D = some (.lst ((as.filterMap F).map e2)) → Qd H) :
    ∃ W : Nat → Nat → Hp → Prop, (∃ m, W 0 m (upd H1 D (.lst []))) ∧ ∀ i m H, W i m H →
      ((Itl K a).stop i H ∧ Qd H) ∨ ((Itl K a).go i H ∧ ∃ Nx : Hp → Prop, (∀ H', Nx H' → ∃ m', m' < m ∧ W (i + 1) m' H') ∧ ∀ x H', (Itl K a).yld i H x H' → gName j x (wipe σ vs) H' fun σ2 H2 => wipe σ2 vs = wipe σ vs ∧ tt σ2 H2 fun b H3 =>
        if b = true then te σ2 H3 fun y H4 => ∃ acc, H4 D = some (.lst acc) ∧ acc.length < sizeLine ∧ Nx (upd H4 D (.lst (acc ++ [y]))) else Nx H3) := by
  refine lc_it (walk_list (xs := as.map e)) (fun i H => H D = some (.lst (((as.take i).filterMap F).map e2)) ∧ Same H1 H) ⟨upd_same, same_upd nD⟩ (fun i H _ h => h.2.seq hS) ?_ ?_
  · rintro i y H H' hi ⟨eD, sm⟩ ⟨rfl, hy⟩
    rw [List.getElem?_map] at hy
    cases ex : as[i]? with
    | none => rw [ex] at hy; cases hy
    | some x =>
      rw [ex] at hy
      cases hy
      refine hs i x H' _ _ ex sm (fun z H4 hz4 s4 => ⟨_, s4 _ _ eD, ?_, ?_, same_mut nD (sm.trans s4)⟩) (fun H3 h3 s3 => ⟨?_, sm.trans s3⟩)
      · rw [List.length_map]
        exact big (Nat.le_trans (fm_len F as i) (by omega))
      · rw [upd_same, fm_succ ex, hz4, List.map_append]
        rfl
      · rw [fm_succ ex, h3]
        simpa using s3 _ _ eD
  · rintro H ⟨eD, sm⟩
    rw [List.length_map, List.take_length] at eD
    exact hd H sm eD
theorem lcF_zip {a b : Addr} {as : List α} {bs : List β} (e : α → V) (e' : β → V) {j1 j2 : Nat} {tt : TT} {te : TE} {vs : List Nat} {σ : L2.St} {H1 : Hp} {D : Addr} {Qd : Hp → Prop} (F : α → β → Option γ) (e2 : γ → V) (hS : SqL K H1 a (as.map e)) (hS2 : SqL K H1 b (bs.map e')) (nD : H1 D = none) (hz : as.length ≤ 40000)
    (hs : ∀ (i : Nat) x y H (A : V → Hp → Prop) (B : Hp → Prop), as[i]? = some x → bs[i]? = some y → Same H1 H → (∀ z H', F x y = some z → Same H H' → A (e2 z) H') → (∀ H', F x y = none → Same H H' → B H') →
      wipe (((wipe σ vs).set j1 (some (e x))).set j2 (some (e' y))) vs = wipe σ vs ∧ tt (((wipe σ vs).set j1 (some (e x))).set j2 (some (e' y))) H fun b H3 => if b = true then te (((wipe σ vs).set j1 (some (e x))).set j2 (some (e' y))) H3 A else B H3)
    (hd : ∀ H, Same H1 H → H D = some (.lst (((as.zip bs).filterMap fun p => F p.1 p.2).map e2)) → Qd H) :
    ∃ W : Nat → Nat → Hp → Prop, (∃ m, W 0 m (upd H1 D (.lst []))) ∧ ∀ i m H, W i m H →
      ((Itz K a b).stop i H ∧ Qd H) ∨ ((Itz K a b).go i H ∧ ∃ Nx : Hp → Prop, (∀ H', Nx H' → ∃ m', m' < m ∧ W (i + 1) m' H') ∧ ∀ x H', (Itz K a b).yld i H x H' → gTup K 2 (gCons (gName j1) (gCons (gName j2) gNil)) x (wipe σ vs) H' fun σ2 H2 => wipe σ2 vs = wipe σ vs ∧ tt σ2 H2 fun b H3 =>
        if b = true then te σ2 H3 fun y H4 => ∃ acc, H4 D = some (.lst acc) ∧ acc.length < sizeLine ∧ Nx (upd H4 D (.lst (acc ++ [y]))) else Nx H3) := by
  have hlen : (as.zip bs).length = min (as.map e).length (bs.map e').length := by rw [List.length_zip, List.length_map, List.length_map]
  refine lc_it (L2.walk_zip (xs := as.map e) (ys := bs.map e') hlen) (fun i H => H D = some (.lst ((((as.zip bs).take i).filterMap fun p => F p.1 p.2).map e2)) ∧ Same H1 H) ⟨upd_same, same_upd nD⟩ (fun i H _ h => ⟨h.2.seq hS, h.2.seq hS2⟩) ?_ ?_
  · rintro i y H H' hi ⟨eD, sm⟩ ⟨T, x, z, rfl, nT, rfl, hx, hy⟩
    rw [List.length_zip] at hi
    have l1 : i < as.length := by omega
    have l2 : i < bs.length := by omega
    have e1 : as[i]? = some as[i] := List.getElem?_eq_getElem l1
    have e3 : bs[i]? = some bs[i] := List.getElem?_eq_getElem l2
    replace hx : (as.map e)[i]? = some x := hx
    replace hy : (bs.map e')[i]? = some z := hy
    rw [List.getElem?_map, e1] at hx
    rw [List.getElem?_map, e3] at hy
    cases hx
    cases hy
    have ez : (as.zip bs)[i]? = some (as[i], bs[i]) := by
      rw [List.getElem?_zip_eq_some]
      exact ⟨e1, e3⟩
    have sT := same_upd (o := .tup [e as[i], e' bs[i]]) nT
    refine ⟨T, _, rfl, .of upd_same, rfl, _, _, rfl, _, _, rfl, rfl, ?_⟩
    refine hs i as[i] bs[i] _ _ _ e1 e3 (sm.trans sT) (fun z H4 hz4 s4 => ⟨_, s4 _ _ (sT _ _ eD), ?_, ?_, same_mut nD ((sm.trans sT).trans s4)⟩) (fun H3 h3 s3 => ⟨?_, (sm.trans sT).trans s3⟩)
    · rw [List.length_map]
      refine big (Nat.le_trans (fm_len _ _ i) ?_)
      rw [List.length_zip]
      omega
    · rw [upd_same, fm_succ ez, hz4, List.map_append]
      rfl
    · rw [fm_succ ez, h3]
      simpa using s3 _ _ (sT _ _ eD)
  · rintro H ⟨eD, sm⟩
    rw [List.take_length] at eD
    exact hd H sm eD
theorem lcF_enum {a : Addr} {as : List α} (e : α → V) {j1 j2 : Nat} {tt : TT} {te : TE} {vs : List Nat} {σ : L2.St} {H1 : Hp} {D : Addr} {Qd : Hp → Prop} (F : α × Nat → Option γ) (e2 : γ → V) (hS : SqL K H1 a (as.map e)) (nD : H1 D = none) (hz : as.length ≤ 40000)
    (hs : ∀ (i : Nat) x H (A : V → Hp → Prop) (B : Hp → Prop), as[i]? = some x → Same H1 H → (∀ z H', F (x, i) = some z → Same H H' → A (e2 z) H') → (∀ H', F (x, i) = none → Same H H' → B H') →
      wipe (((wipe σ vs).set j1 (some (.int (i : Nat)))).set j2 (some (e x))) vs = wipe σ vs ∧ tt (((wipe σ vs).set j1 (some (.int (i : Nat)))).set j2 (some (e x))) H fun b H3 => if b = true then te (((wipe σ vs).set j1 (some (.int (i : Nat)))).set j2 (some (e x))) H3 A else B H3)
    (hd : ∀ H, Same H1 H → H D = some (.lst ((as.zipIdx.filterMap F).map e2)) → Qd H) :
    ∃ W : Nat → Nat → Hp → Prop, (∃ m, W 0 m (upd H1 D (.lst []))) ∧ ∀ i m H, W i m H →
      ((Ite K a).stop i H ∧ Qd H) ∨ ((Ite K a).go i H ∧ ∃ Nx : Hp → Prop, (∀ H', Nx H' → ∃ m', m' < m ∧ W (i + 1) m' H') ∧ ∀ x H', (Ite K a).yld i H x H' → gTup K 2 (gCons (gName j1) (gCons (gName j2) gNil)) x (wipe σ vs) H' fun σ2 H2 => wipe σ2 vs = wipe σ vs ∧ tt σ2 H2 fun b H3 =>
        if b = true then te σ2 H3 fun y H4 => ∃ acc, H4 D = some (.lst acc) ∧ acc.length < sizeLine ∧ Nx (upd H4 D (.lst (acc ++ [y]))) else Nx H3) := by
  refine lc_it (walk_enum (xs := as.map e)) (fun i H => H D = some (.lst (((as.zipIdx.take i).filterMap F).map e2)) ∧ Same H1 H) ⟨upd_same, same_upd nD⟩ (fun i H _ h => h.2.seq hS) ?_ ?_
  · rintro i y H H' hi ⟨eD, sm⟩ ⟨T, x, z, rfl, nT, rfl, hx, hy⟩
    rw [List.length_map] at hi
    have e1 : as[i]? = some as[i] := List.getElem?_eq_getElem hi
    replace hy : (as.map e)[i]? = some z := hy
    rw [List.getElem?_map, e1] at hy
    cases hx
    cases hy
    have ez : as.zipIdx[i]? = some (as[i], i) := by
      rw [List.getElem?_zipIdx, e1]
      simp
    have sT := same_upd (o := .tup [.int (i : Nat), e as[i]]) nT
    refine ⟨T, _, rfl, .of upd_same, rfl, _, _, rfl, _, _, rfl, rfl, ?_⟩
    refine hs i as[i] _ _ _ e1 (sm.trans sT) (fun z H4 hz4 s4 => ⟨_, s4 _ _ (sT _ _ eD), ?_, ?_, same_mut nD ((sm.trans sT).trans s4)⟩) (fun H3 h3 s3 => ⟨?_, (sm.trans sT).trans s3⟩)
    · rw [List.length_map]
      refine big (Nat.le_trans (fm_len _ _ i) ?_)
      rw [List.length_zipIdx]
      omega
    · rw [upd_same, fm_succ ez, hz4, List.map_append]
      rfl
    · rw [fm_succ ez, h3]
      simpa using s3 _ _ (sT _ _ eD)
  · rintro H ⟨eD, sm⟩
    rw [List.length_map, ← List.length_zipIdx (l := as) (i := 0), List.take_length] at eD
    exact hd H sm eD
end

/-! ### the program: numbers dealt -/
def ov : Option Int → V
  | none => .non
  | some c => .int c
def small (i : Int) : Prop := i.natAbs < 2 ^ 400
theorem small_mul {i j : Int} (h : small i) (h2 : small j) : CMulW i j := wide_mul h h2 (by decide) (by decide) (by decide)
theorem small_le {i j : Int} (h0 : 0 ≤ i) (h : i ≤ j) (h2 : small j) : small i := Nat.lt_of_le_of_lt (by omega) h2
theorem small_div {i j : Int} (h0 : 0 < j) (h : small j) : CDivW i j := wide_div h0 h (by decide) (by decide)
def spWholeI : Sp := fun vs H Q _ => ∃ i : Int, vs = [.int i] ∧ Q (.bl true) H
def spCountI : Sp := fun vs H Q _ => ∃ i : Int, vs = [.int i] ∧ 0 ≤ i ∧ Q (.bl true) H
def spNoList : Sp := fun vs H Q _ => ∃ (a : Addr) (xs : List V), vs = [.ref a] ∧ H a = some (.lst xs) ∧ Q .non H
def spNoCounts : Sp := fun vs H Q _ => ∃ (a : Addr) (ns : List Int), vs = [.ref a] ∧ H a = some (.lst (ns.map V.int)) ∧ (∀ n ∈ ns, 0 ≤ n) ∧ Q .non H
def spNoWeights : Sp := fun vs H Q _ => ∃ (a : Addr) (ns : List Int), vs = [.ref a, .int (ns.length : Int)] ∧ H a = some (.lst (ns.map V.int)) ∧ (∀ n ∈ ns, 0 ≤ n) ∧ Q .non H
def spB (cap : Bool) : Sp := fun vs H Q _ => ∃ (x : Pr) (top bot : Int), vs = [ov x.1, .int x.2, .int top, .int bot] ∧ (cap = false → x.1 ≠ none) ∧ small (lim x) ∧ small x.2 ∧ small top ∧ small bot ∧ Q (.bl (bnd cap x top bot)) H
def spRun : Sp := fun vs H Q _ => ∃ (room : Int) (a : Addr) (ns : List Int), vs = [.int room, .ref a] ∧ H a = some (.lst (ns.map V.int)) ∧ (∀ n ∈ ns, 0 ≤ n) ∧ 0 < ns.sum ∧ small ns.sum ∧ small room ∧ ns.length ≤ 4000 ∧
  ∀ p H', H p = none → Same H H' → H' p = some (.lst ((runs room ns.sum 0 ns).map V.int)) → Q (.ref p) H'
def spLow : Sp := fun vs H Q _ => ∃ top bot : Nat, vs = [.int (top : Int), .int (bot : Int)] ∧ 0 < bot ∧ small (top : Int) ∧ small (bot : Int) ∧
  ∀ p H', H p = none → Same H H' → H' p = some (.tup [.int ((top / Nat.gcd top bot : Nat) : Int), .int ((bot / Nat.gcd top bot : Nat) : Int)]) → Q (.ref p) H'
def nmB : Bool → Str
  | true => "cap_binds"
  | false => "floor_binds"
def hasB (_ : Bool) : Prop := True
def p0 (x : Pr) : Bool := decide (0 < x.2)
def eI (x : Pr × Nat) : V := .int (x.2 : Nat)
def frI (cap : Bool) (room W : Int) (ps : List Pr) : List (Pr × Nat) := ps.zipIdx.filter fun x => free cap room W x.1
structure Fits (total : Int) (ps : List Pr) : Prop where
  good : Good ps
  t0 : 0 ≤ total
  t1 : small total
  l1 : ∀ x ∈ ps, small (lim x)
  w1 : small (sumW ps)
  n1 : ps.length ≤ 4000
def Lev0 (cap : Bool) (total : Int) (ps : List Pr) : Prop := Lev cap total ps p0 (total - sumL (ps.filter fun x => !p0 x)) (sumW (ps.filter p0))
def spUnb (mg : Str → Option Value) : Sp := fun vs H Q _ => ∃ (total : Int) (la wa f : Addr) (cap : Bool) (ps : List Pr), vs = [.int total, .ref la, .ref wa, .ref f] ∧ (mg (nmB cap) = some (.ref f) ∧ hasB cap) ∧ H la = some (.lst (ps.map fun x => ov x.1)) ∧ H wa = some (.lst (ps.map fun x => .int x.2)) ∧
  Fits total ps ∧ Lev0 cap total ps ∧
  ∀ t fl room W H', H t = none → Fix cap total ps room W → room ≤ total → W ≤ sumW ps → H' t = some (.tup [.ref fl, .int room, .int W]) → H' fl = some (.lst ((frI cap room W ps).map eI)) → Same H H' → Q (.ref t) H'
/-- what a level told is -/
def LvAt (H : Hp) (v : V) : Option (Int × Int) → Prop
  | none => v = .non
  | some (a, b) => ∃ q, v = .ref q ∧ H q = some (.tup [.int a, .int b])
def spBy (mg : Str → Option Value) : Sp := fun vs H Q _ => ∃ (total : Int) (la wa f : Addr) (cap : Bool) (ps : List Pr), vs = [.int total, .ref la, .ref wa, .ref f] ∧ (mg (nmB cap) = some (.ref f) ∧ hasB cap) ∧ H la = some (.lst (ps.map fun x => ov x.1)) ∧ H wa = some (.lst (ps.map fun x => .int x.2)) ∧
  Fits total ps ∧ Lev0 cap total ps ∧
  ∀ t p lv room W H', H t = none → H p = none → Fix cap total ps room W → H' t = some (.tup [lv, .ref p]) → LvAt H' lv (some (low room W)) → H' p = some (.lst ((runP room W (free cap room W) 0 ps).map V.int)) → Same H H' → Q (.ref t) H'
theorem fm_filter {α : Type} (p : α → Bool) : ∀ l : List α, (l.filterMap fun y => if p y = true then some y else none) = l.filter p
  | [] => rfl
  | x :: r => by
    rw [List.filterMap_cons, fm_filter p r, List.filter_cons]
    cases p x <;> rfl
theorem fm_some {α β : Type} (f : α → β) : ∀ l : List α, (l.filterMap fun y => some (f y)) = l.map f
  | [] => rfl
  | x :: r => by
    rw [List.filterMap_cons, fm_some f r]
    rfl
section
variable {P : Program} {w : World} {K : PySem.W.Frag} {mg : Str → Option Value} {base : Heap}
theorem ok_wholeI (T : Txt K mg) : Ok P w K mg base CX0 "is_whole" s_p_is_whole 1 ["thing"] spWholeI := by
  refine T.h_p_is_whole.ok sc_p_is_whole (fun vs H Q E h => ?_) (fun f cdv A outer s H vs Q E hr h => ?_)
  · obtain ⟨x, rfl, _⟩ := h; rfl
  obtain ⟨i, rfl, q⟩ := h
  refine ⟨_, (pss_one (ps_ret (pe_and (pe_callB call_isi (by rfl) T.m_isinstance (by decide +kernel) (pa_cons (pv 0) (pa_cons (pe_bltn (v := .ty "int") (by rfl) T.m_int (by decide +kernel) rfl) pa_nil))) (pe_one (pe_not (pe_callB call_isi (by rfl) T.m_isinstance (by decide +kernel) (pa_cons (pv 0) (pa_cons (pe_bltn (v := .ty "bool") (by rfl) T.m_bool (by decide +kernel) rfl) pa_nil)))))))), ?_⟩
  refine ⟨_, rfl, _, _, _, _, true, rfl, .ty _, .base (.int i), kit_ty (by decide +kernel), true, rfl, iteT ?_⟩
  exact ⟨_, rfl, _, _, _, _, false, rfl, .ty _, .base (.int i), kit_ty (by decide +kernel), false, rfl, q⟩
theorem ok_countI (T : Txt K mg) : Ok P w K mg base CX0 "is_count" s_p_is_count 2 ["thing"] spCountI := by
  have O_p_is_whole := ok_wholeI (P := P) (w := w) (base := base) T
  refine T.h_p_is_count.ok sc_p_is_count (fun vs H Q E h => ?_) (fun f cdv A outer s H vs Q E hr h => ?_)
  · obtain ⟨x, rfl, _⟩ := h; rfl
  obtain ⟨i, rfl, i0, q⟩ := h
  refine ⟨_, (pss_one (ps_ret (pe_and (callO O_p_is_whole (hr.mono (by decide)) (by rfl) (pa_cons (pv 0) pa_nil)) (pe_one (pe_cmpR op_ge (pv 0) pe_int (nomark _)))))), ?_⟩
  refine ⟨_, rfl, i, rfl, true, rfl, iteT ?_⟩
  refine ⟨_, rfl, _, _, rfl, rfl, ?_⟩
  show Q (.bl (decide (0 ≤ i))) H
  rw [decide_eq_true i0]
  exact q
theorem ok_no_list (T : Txt K mg) : Ok P w K mg base CX0 "refuse_no_list" s_p_refuse_no_list 1 ["thing"] spNoList := by
  refine T.h_p_refuse_no_list.ok sc_p_refuse_no_list (fun vs H Q E h => ?_) (fun f cdv A outer s H vs Q E hr h => ?_)
  · obtain ⟨a, x, rfl, _⟩ := h; rfl
  obtain ⟨a, x, rfl, ha, q⟩ := h
  refine ⟨_, (pss_one (ps_if (pt_not (pt_val (pe_callB call_isi (by rfl) T.m_isinstance (by decide +kernel) (pa_cons (pv 0) (pa_cons (pe_bltn (v := .ty "list") (by rfl) T.m_list (by decide +kernel) rfl) pa_nil)))))
      (pss_one ps_never)
      pss_nil)), ?_⟩
  exact ⟨_, rfl, _, _, _, _, true, rfl, .ty _, .base (.lst ha), kit_ty (by decide +kernel), true, rfl, iteF q⟩
theorem ok_no_counts (T : Txt K mg) : Ok P w K mg base CX0 "refuse_no_counts" s_p_refuse_no_counts 3 ["things"] spNoCounts := by
  have O_p_is_count := ok_countI (P := P) (w := w) (base := base) T
  refine T.h_p_refuse_no_counts.ok sc_p_refuse_no_counts (fun vs H Q E h => ?_) (fun f cdv A outer s H vs Q E hr h => ?_)
  · obtain ⟨a, x, rfl, _⟩ := h; rfl
  obtain ⟨a, ns, rfl, ha, h0, q⟩ := h
  refine ⟨_, (pss_one (ps_for PassesOwn.never rfl (pi_list (pv 0)) (pg_name (i := 1) sc_p_refuse_no_counts.nd rfl (by first | exact Or.inl rfl | exact Or.inr rfl))
      (pss_one (ps_if (pt_not (pt_val (callO O_p_is_count (hr.mono (by decide)) (by rfl) (pa_cons (pv 1) pa_nil))))
      (pss_one ps_never)
      pss_nil)))), ?_⟩
  refine ⟨_, rfl, a, rfl, ⟨_, .of ha⟩, for_list (K := K) (a := a) (xs := ns.map V.int) (fun i σ H' => ∃ v1, σ = [some (.ref a), v1] ∧ H' = H) ⟨none, rfl, rfl⟩ (fun i σ H' _ h => by obtain ⟨_, _, rfl⟩ := h; exact .of ha) ?_ ?_⟩
  · rintro i y σ H' hi ⟨v1, rfl, rfl⟩
    obtain ⟨z, rfl, hz⟩ := int_at hi
    exact ⟨_, rfl, z, rfl, h0 z (List.mem_of_getElem? hz), true, rfl, iteF ⟨_, rfl, rfl⟩⟩
  · rintro σ H' ⟨v1, rfl, rfl⟩
    exact q
theorem ok_no_weights (T : Txt K mg) : Ok P w K mg base CX0 "refuse_no_weights" s_p_refuse_no_weights 4 ["weights", "many"] spNoWeights := by
  have O_p_refuse_no_list := ok_no_list (P := P) (w := w) (base := base) T
  have O_p_refuse_no_counts := ok_no_counts (P := P) (w := w) (base := base) T
  refine T.h_p_refuse_no_weights.ok sc_p_refuse_no_weights (fun vs H Q E h => ?_) (fun f cdv A outer s H vs Q E hr h => ?_)
  · obtain ⟨a, x, rfl, _⟩ := h; rfl
  obtain ⟨a, ns, rfl, ha, h0, q⟩ := h
  refine ⟨_, (pss_cons (ps_expr (callO O_p_refuse_no_list (hr.mono (by decide)) (by rfl) (pa_cons (pv 0) pa_nil)))
      (pss_cons (ps_expr (callO O_p_refuse_no_counts (hr.mono (by decide)) (by rfl) (pa_cons (pv 0) pa_nil)))
      (pss_one (ps_if (pt_cmpR op_ne (pe_callB call_len (by rfl) T.m_len (by decide +kernel) (pa_cons (pv 0) pa_nil)) (pv 1) (nomark _))
      (pss_one ps_never)
      pss_nil)))), ?_⟩
  refine ⟨_, rfl, a, _, rfl, ha, ?_⟩
  refine ⟨_, rfl, a, ns, rfl, ha, h0, ?_⟩
  refine ⟨_, rfl, _, _, rfl, .inl ⟨_, .of ha, rfl⟩, _, rfl, rfl, _, rfl, ?_⟩
  rw [List.length_map, decide_eq_true rfl]
  exact iteF q
theorem ok_cap_binds (T : Txt K mg) : Ok P w K mg base CX0 "cap_binds" s_p_cap_binds 1 ["cap", "weight", "top", "bottom"] (spB true) := by
  refine T.h_p_cap_binds.ok sc_p_cap_binds (fun vs H Q E h => ?_) (fun f cdv A outer s H vs Q E hr h => ?_)
  · obtain ⟨a, _, _, rfl, _⟩ := h; rfl
  obtain ⟨⟨c, wt⟩, top, bot, rfl, _, s1, s2, s3, s4, q⟩ := h
  refine ⟨_, (pss_one (ps_ret (pe_and (pe_cmpR op_notN (pv 0) pe_non (nomark _)) (pe_one (pe_cmpR op_le (pe_op op_mulW (pv 0) (pv 3)) (pe_op op_mulW (pv 2) (pv 1)) (nomark _)))))), ?_⟩
  cases c with
  | none => exact ⟨_, rfl, rfl, _, rfl, iteF q⟩
  | some c => exact ⟨_, rfl, rfl, _, rfl, iteT ⟨_, rfl, _, rfl, _, _, rfl, rfl, small_mul s1 s4, _, rfl, _, rfl, _, _, rfl, rfl, small_mul s3 s2, _, _, rfl, rfl, q⟩⟩
theorem ok_floor_binds (T : Txt K mg) : Ok P w K mg base CX0 "floor_binds" s_p_floor_binds 1 ["floor", "weight", "top", "bottom"] (spB false) := by
  refine T.h_p_floor_binds.ok sc_p_floor_binds (fun vs H Q E h => ?_) (fun f cdv A outer s H vs Q E hr h => ?_)
  · obtain ⟨a, _, _, rfl, _⟩ := h; rfl
  obtain ⟨⟨c, wt⟩, top, bot, rfl, hk, s1, s2, s3, s4, q⟩ := h
  refine ⟨_, (pss_one (ps_ret (pe_cmpR op_ge (pe_op op_mulW (pv 0) (pv 3)) (pe_op op_mulW (pv 2) (pv 1)) (nomark _)))), ?_⟩
  cases c with
  | none => exact absurd rfl (hk rfl)
  | some c => exact ⟨_, rfl, _, rfl, _, _, rfl, rfl, small_mul s1 s4, _, rfl, _, rfl, _, _, rfl, rfl, small_mul s3 s2, _, _, rfl, rfl, q⟩
theorem take_sum_succ {ns : List Int} {i : Nat} {z : Int} (h : ns[i]? = some z) : (ns.take (i + 1)).sum = (ns.take i).sum + z := by
  rw [List.take_add_one, h, List.sum_append]
  simp
theorem take_sum_le {ns : List Int} (h : ∀ n ∈ ns, 0 ≤ n) (i : Nat) : 0 ≤ (ns.take i).sum ∧ (ns.take i).sum ≤ ns.sum := by
  have h1 := sum_nonneg (fun n : Int => n) (ns.take i) fun x hx => h x (List.mem_of_mem_take hx)
  have h2 := sum_nonneg (fun n : Int => n) (ns.drop i) fun x hx => h x (List.mem_of_mem_drop hx)
  have h3 : ns.sum = (ns.take i).sum + (ns.drop i).sum := by
    rw [← List.sum_append, List.take_append_drop]
  simp only [List.map_id'] at h1 h2
  omega
theorem ok_running (T : Txt K mg) : Ok P w K mg base CX0 "running_parts" s_p_running_parts 1 ["room", "weights"] spRun := by
  refine T.h_p_running_parts.ok sc_p_running_parts (fun vs H Q E h => ?_) (fun f cdv A outer s H vs Q E hr h => ?_)
  · obtain ⟨_, a, _, rfl, _⟩ := h; rfl
  obtain ⟨room, a, ns, rfl, ha, h0, hp, hs, hm, hl, q⟩ := h
  refine ⟨_, (pss_cons (ps_set (i := 2) sc_p_running_parts.nd rfl (by first | exact Or.inl rfl | exact Or.inr rfl) (pe_callB (cr_sum rfl) (by rfl) T.m_sum (by decide +kernel) (pa_cons (pv 1) pa_nil)))
      (pss_cons (ps_set (i := 3) sc_p_running_parts.nd rfl (by first | exact Or.inl rfl | exact Or.inr rfl) (pe_lst pa_nil))
      (pss_cons (ps_set (i := 4) sc_p_running_parts.nd rfl (by first | exact Or.inl rfl | exact Or.inr rfl) pe_int)
      (pss_cons (ps_set (i := 5) sc_p_running_parts.nd rfl (by first | exact Or.inl rfl | exact Or.inr rfl) pe_int)
      (pss_cons (ps_for PassesOwn.never rfl (pi_list (pv 1)) (pg_name (i := 6) sc_p_running_parts.nd rfl (by first | exact Or.inl rfl | exact Or.inr rfl))
      (pss_cons (ps_aug (i := 4) sc_p_running_parts.nd rfl (by first | exact Or.inl rfl | exact Or.inr rfl) (pv 6) ip_add)
      (pss_cons (ps_set (i := 7) sc_p_running_parts.nd rfl (by first | exact Or.inl rfl | exact Or.inr rfl) (pe_op op_fdivW (pe_op op_mulW (pv 0) (pv 4)) (pv 2)))
      (pss_cons (ps_expr (pe_bm PySem.F.plainAttrs_list PySem.F.slot_list_append PySem.F.type_list_append mt_append (pv 3) (pa_cons (pe_op op_sub (pv 7) (pv 5)) pa_nil)))
      (pss_one (ps_set (i := 5) sc_p_running_parts.nd rfl (by first | exact Or.inl rfl | exact Or.inr rfl) (pv 7)))))))
      (pss_one (ps_ret (pv 3)))))))), ?_⟩
  refine ⟨_, rfl, a, ns, rfl, .of ha, (by show 0 ≤ sizeLine; decide), fun S nS => ?_⟩
  have sS := same_upd (o := .lst []) nS
  have eS : (upd H S (.lst [])) S = some (.lst []) := upd_same
  generalize upd H S (.lst []) = HB at sS eS ⊢
  refine ⟨_, rfl, a, rfl, ⟨_, .of (sS _ _ ha)⟩, for_list (K := K) (a := a) (xs := ns.map V.int) (fun i σ H' => ∃ v6 v7, σ = [some (.int room), some (.ref a), some (.int ns.sum), some (.ref S), some (.int (ns.take i).sum), some (.int (room * (ns.take i).sum / ns.sum)), v6, v7] ∧ H' S = some (.lst ((runs room ns.sum 0 (ns.take i)).map V.int)) ∧ Same H H')
    ⟨none, none, by simp; rfl, eS, sS⟩ (fun i σ H' _ h => by obtain ⟨_, _, _, _, z⟩ := h; exact .of (z _ _ ha)) ?_ ?_⟩
  · rintro i y σ H' hi ⟨v6, v7, rfl, eSi, sm⟩
    obtain ⟨z, rfl, hz⟩ := int_at hi
    have b1 := take_sum_le h0 (i + 1)
    have e1 := take_sum_succ hz
    have hil : i < ns.length := (List.getElem?_eq_some_iff.mp hz).1
    refine ⟨_, rfl, _, rfl, _, _, rfl, rfl, ?_⟩
    refine ⟨_, rfl, _, rfl, _, _, rfl, rfl, small_mul hm (by show small ((ns.take i).sum + z); rw [← e1]; exact small_le b1.1 b1.2 hs), _, rfl, _, _, rfl, rfl, small_div hp hs, ?_⟩
    refine ⟨_, rfl, .inl ⟨rfl, _, .of eSi⟩, _, rfl, _, rfl, _, _, rfl, rfl, S, _, _, rfl, rfl, eSi, ?_, ?_⟩
    · rw [List.length_map, runs_len, List.length_take]
      exact big (by omega)
    refine ⟨_, rfl, _, _, by rw [e1]; rfl, ?_, same_mut nS sm⟩
    rw [upd_same, List.take_add_one, hz]
    show _ = some (HO.lst ((runs room ns.sum 0 (ns.take i ++ [z])).map V.int))
    rw [runs_snoc, Int.zero_add, List.map_append]
    rfl
  · rintro σ H' ⟨v6, v7, rfl, eSi, sm⟩
    rw [List.length_map, List.take_length] at eSi
    exact ⟨_, rfl, q S H' nS sm eSi⟩
theorem ok_low (T : Txt K mg) : Ok P w K mg base CX0 "in_lowest_terms" s_p_in_lowest_terms 1 ["top", "bottom"] spLow := by
  refine T.h_p_in_lowest_terms.ok sc_p_in_lowest_terms (fun vs H Q E h => ?_) (fun f cdv A outer s H vs Q E hr h => ?_)
  · obtain ⟨_, _, rfl, _⟩ := h; rfl
  obtain ⟨top, bot, rfl, hb, s1, s2, q⟩ := h
  refine ⟨_, (pss_cons (ps_set (i := 2) sc_p_in_lowest_terms.nd rfl (by first | exact Or.inl rfl | exact Or.inr rfl) (pv 1))
      (pss_cons (ps_set (i := 3) sc_p_in_lowest_terms.nd rfl (by first | exact Or.inl rfl | exact Or.inr rfl) (pv 0))
      (pss_cons (ps_while PassesOwn.never (pt_cmpR op_gt (pv 3) pe_int (nomark _))
      (pss_one (ps_par (i := 2) (j := 3) (by rfl) sc_p_in_lowest_terms.nd rfl rfl (by decide) rfl rfl (pa_cons (pv 3) (pa_cons (pe_op op_mod (pv 2) (pv 3)) pa_nil)) (by rfl))))
      (pss_one (ps_ret (pe_tup (pa_cons (pe_op op_fdivW (pv 0) (pv 2)) (pa_cons (pe_op op_fdivW (pv 1) (pv 2)) pa_nil)))))))), ?_⟩
  refine ⟨_, rfl, _, rfl, fun m σ H' => ∃ d r : Nat, σ = [some (.int (top : Int)), some (.int (bot : Int)), some (.int (d : Int)), some (.int (r : Int))] ∧ 0 < d ∧ Nat.gcd d r = Nat.gcd top bot ∧ small (d : Int) ∧ small (r : Int) ∧ m = r ∧ H' = H,
    ⟨top, bot, top, rfl, hb, Nat.gcd_comm _ _, s2, s1, rfl, rfl⟩, ?_⟩
  rintro m σ H' ⟨d, r, rfl, d0, hg, sd, sr, rfl, rfl⟩
  refine ⟨_, rfl, _, _, rfl, rfl, _, rfl, ite2 (fun e => ?_) (fun e => ?_)⟩
  · have e1 := of_decide_eq_true e
    refine ⟨fun σ2 H2 => ∃ d2 r2 : Nat, σ2 = [some (.int (top : Int)), some (.int (bot : Int)), some (.int (d2 : Int)), some (.int (r2 : Int))] ∧ 0 < d2 ∧ Nat.gcd d2 r2 = Nat.gcd top bot ∧ small (d2 : Int) ∧ small (r2 : Int) ∧ r2 < m ∧ H2 = H', ?_, ?_⟩
    · rintro σ2 H2 ⟨d2, r2, h1, h2, h3, h4, h5, h6, h7⟩
      exact ⟨r2, h6, d2, r2, h1, h2, h3, h4, h5, rfl, h7⟩
    · have m0 : 0 < m := by omega
      have hlt := Nat.mod_lt d m0
      refine ⟨_, rfl, _, rfl, _, rfl, _, _, rfl, rfl, e1, _, _, rfl, ?_⟩
      refine ⟨m, d % m, ?_, m0, ?_, sr, ?_, hlt, rfl⟩
      · rw [Int.natCast_emod]
        rfl
      · rw [← hg, Nat.gcd_comm d m, Nat.gcd_rec m d, Nat.gcd_comm]
      · exact small_le (by omega) (by omega) sr
  · have hr0 : m = 0 := by
      have : ¬ (0 : Int) < (m : Int) := fun z => e (decide_eq_true z)
      omega
    subst hr0
    rw [Nat.gcd_zero_right] at hg
    have dd : (0 : Int) < (d : Int) := by omega
    refine ⟨_, rfl, _, rfl, _, _, rfl, rfl, small_div dd sd, _, rfl, _, rfl, _, _, rfl, rfl, small_div dd sd, (by show 2 ≤ sizeLine; decide), fun p np => ?_⟩
    refine q p _ np (same_upd np) ?_
    rw [upd_same, ← hg, Int.natCast_ediv, Int.natCast_ediv]
end

/-! ### the level is found -/
theorem fm_zip_self {α β : Type} (F : α → α → Option β) : ∀ l : List α, ((l.zip l).filterMap fun p => F p.1 p.2) = l.filterMap fun x => F x x
  | [] => rfl
  | x :: r => by
    rw [List.zip_cons_cons, List.filterMap_cons, List.filterMap_cons, fm_zip_self F r]
theorem fm_zero : ∀ ps : List Pr, (∀ x ∈ ps, 0 ≤ x.2) → (ps.filterMap fun x => if x.2 = 0 then some (lim x) else none) = (ps.filter fun x => !p0 x).map lim
  | [], _ => rfl
  | x :: r, h => by
    have h1 := h x List.mem_cons_self
    rw [List.filterMap_cons, fm_zero r fun y hy => h y (List.mem_cons_of_mem _ hy), List.filter_cons]
    by_cases e : x.2 = 0
    · rw [if_pos e, show p0 x = false from decide_eq_false (by omega)]
      rfl
    · rw [if_neg e, show p0 x = true from decide_eq_true (by omega)]
      rfl
theorem sumW_p0 : ∀ ps : List Pr, (∀ x ∈ ps, 0 ≤ x.2) → sumW (ps.filter p0) = (ps.map fun x => x.2).sum
  | [], _ => rfl
  | x :: r, h => by
    have h1 := h x List.mem_cons_self
    have ih := sumW_p0 r fun y hy => h y (List.mem_cons_of_mem _ hy)
    rw [List.filter_cons, List.map_cons, List.sum_cons, ← ih]
    by_cases e : x.2 = 0
    · rw [show p0 x = false from decide_eq_false (by omega), e, if_neg (by decide)]
      omega
    · rw [show p0 x = true from decide_eq_true (by omega), if_pos rfl]
      rfl
theorem ff {α : Type} (p q : α → Bool) : ∀ l : List α, (l.filter p).filter q = l.filter fun x => p x && q x
  | [] => rfl
  | x :: r => by
    have ih := ff p q r
    cases hp : p x <;> cases hq : q x <;> simp [List.filter_cons, hp, hq, ih]
theorem filter_split_len {α : Type} (p b : α → Bool) : ∀ l : List α, (l.filter p).length = (l.filter fun x => p x && b x).length + (l.filter fun x => p x && !b x).length
  | [] => rfl
  | x :: r => by
    have ih := filter_split_len p b r
    cases hp : p x <;> cases hb : b x <;> simp [List.filter_cons, hp, hb] <;> omega
theorem zip_fst {β : Type} (q : Pr → Bool) (f : Pr → β) : ∀ (ps : List Pr) (k : Nat), ((ps.zipIdx k).filter fun x => q x.1).map (fun x => f x.1) = (ps.filter q).map f
  | [], _ => rfl
  | x :: r, k => by
    have ih := zip_fst q f r (k + 1)
    rw [List.zipIdx_cons]
    cases h : q x <;> simp [List.filter_cons, h, ih]
theorem zidx {ps : List Pr} {x : Pr × Nat} (h : x ∈ ps.zipIdx) : ps[x.2]? = some x.1 := by
  obtain ⟨a, i⟩ := x
  exact List.mem_zipIdx_iff_getElem?.mp h
theorem inV_idx {ps : List Pr} {l : List (Pr × Nat)} {x : Pr × Nat} (hl : ∀ y ∈ l, y ∈ ps.zipIdx) (hx : x ∈ ps.zipIdx) : inV (eI x) (l.map eI) = decide (x ∈ l) := by
  unfold inV
  by_cases h : x ∈ l
  · rw [decide_eq_true h, List.any_eq_true]
    refine ⟨eI x, List.mem_map.mpr ⟨x, h, rfl⟩, ?_⟩
    show ((x.2 : Int) == (x.2 : Int)) = true
    simp
  · rw [decide_eq_false h, List.any_eq_false]
    intro v hv e
    obtain ⟨y, hy, rfl⟩ := List.mem_map.mp hv
    have e2 : ((y.2 : Int) == (x.2 : Int)) = true := e
    have e3 : y.2 = x.2 := by
      have e5 := eq_of_beq e2
      omega
    have h1 := zidx (hl y hy)
    have h2 := zidx hx
    rw [e3, h2] at h1
    have e4 : x.1 = y.1 := Option.some.inj h1
    have : x = y := Prod.ext e4 e3.symm
    rw [this] at h
    exact h hy
theorem flat_eI (l : List (Pr × Nat)) : (l.map eI).all flatV = true := by
  rw [List.all_eq_true]
  intro v hv
  obtain ⟨y, _, rfl⟩ := List.mem_map.mp hv
  rfl
theorem ov_some {x : Pr} (h : x.1 ≠ none) : ov x.1 = .int (lim x) := by
  obtain ⟨c, w⟩ := x
  cases c with
  | none => exact absurd rfl h
  | some c => rfl
def WU (H : Hp) (total : Int) (la wa fa : Addr) (cap : Bool) (ps : List Pr) (m : Nat) (σ : L2.St) (H' : Hp) : Prop :=
  ∃ (p : Pr → Bool) (room W : Int) (fl : Addr) (v5 v6 v8 v10 : Option V), σ = [some (.int total), some (.ref la), some (.ref wa), some (.ref fa), some (.ref fl), v5, v6, some (.int room), v8, some (.int W), v10] ∧ Lev cap total ps p room W ∧
    H' fl = some (.lst ((ps.zipIdx.filter fun x => p x.1).map eI)) ∧ Same H H' ∧ m = (ps.zipIdx.filter fun x => p x.1).length
theorem Lev.small {cap : Bool} {total : Int} {ps : List Pr} {p : Pr → Bool} {room W : Int} (ft : Fits total ps) (h : Lev cap total ps p room W) : room ≤ total ∧ W ≤ sumW ps := by
  have h1 := sum_nonneg lim (ps.filter fun x => !p x) fun x hx => ft.good.l0 x (List.mem_filter.mp hx).1
  have h2 := sum_nonneg (fun x : Pr => x.2) (ps.filter fun x => !p x) fun x hx => ft.good.w0 x (List.mem_filter.mp hx).1
  have h3 := sum_split1 (fun x : Pr => x.2) p ps
  have e1 := h.eR
  have e2 := h.eW
  unfold sumL at e1
  unfold sumW at e2 ⊢
  omega
theorem Fits.small_w {total : Int} {ps : List Pr} (ft : Fits total ps) : ∀ x ∈ ps, small x.2 := fun x hx => by
  obtain ⟨s, t, e⟩ := List.append_of_mem hx
  have h1 := sum_nonneg (fun x : Pr => x.2) s fun y hy => ft.good.w0 y (by rw [e]; exact List.mem_append_left _ hy)
  have h2 := sum_nonneg (fun x : Pr => x.2) t fun y hy => ft.good.w0 y (by rw [e]; exact List.mem_append_right _ (List.mem_cons_of_mem _ hy))
  refine small_le (ft.good.w0 x hx) ?_ ft.w1
  unfold sumW
  rw [e, List.map_append, List.sum_append, List.map_cons, List.sum_cons]
  omega
theorem zlen (ps : List Pr) (q : Pr × Nat → Bool) : (ps.zipIdx.filter q).length ≤ ps.length := by
  refine Nat.le_trans (List.length_filter_le _ _) ?_
  rw [List.length_zipIdx]
  exact Nat.le_refl _
section
variable {P : Program} {w : World} {K : PySem.W.Frag} {mg : Str → Option Value} {base : Heap}
theorem binds_ok (T : Txt K mg) {cap : Bool} {fa : Addr} (hf : mg (nmB cap) = some (.ref fa)) (hb : hasB cap) : ∃ fd pn, FnOk P w K mg base CX0 1 fa fd pn (spB cap) ∧ PySem.W.keepIn K (.ref fa) = true ∧ Binds K fd pn [] := by
  cases cap with
  | true =>
    obtain ⟨f2, fd, F, G, m, b⟩ := ok_cap_binds (P := P) (w := w) (base := base) T
    have e := m.symm.trans hf
    cases e
    exact ⟨fd, _, G, F.kp, b⟩
  | false =>
    obtain ⟨f2, fd, F, G, m, b⟩ := ok_floor_binds (P := P) (w := w) (base := base) T
    have e := m.symm.trans hf
    cases e
    exact ⟨fd, _, G, F.kp, b⟩
theorem ok_unbound (T : Txt K mg) : Ok P w K mg base CX0 "unbound" s_p_unbound 2 ["total", "limits", "weights", "binds"] (spUnb mg) := by
  refine T.h_p_unbound.ok sc_p_unbound (fun vs H Q E h => ?_) (fun f cdv A outer s H vs Q E hr h => ?_)
  · obtain ⟨_, _, _, _, _, _, rfl, _⟩ := h; rfl
  obtain ⟨total, la, wa, fa, cap, ps, rfl, hf, hla, hwa, ft, lv, q⟩ := h
  obtain ⟨fd, pn, FB_binds, kB_binds, bB_binds⟩ := binds_ok (P := P) (w := w) (base := base) T hf.1 hf.2
  have n1 := ft.n1
  refine ⟨_, (pss_cons (ps_setLc (i := 4) (own := [("at", 5), ("weight", 6)]) (g := gTup K 2 (gCons (gName 5) (gCons (gName 6) gNil))) (by rfl) sc_p_unbound.nd rfl rfl (sw_true rfl rfl rfl (by decide +kernel)) (pi_enum (by rfl) T.m_enumerate (pa_cons (pv 2) pa_nil)) (blkOk_by (own := [("at", 5), ("weight", 6)]) (N := n_p_unbound) (sc := defScope s_p_unbound) (by decide +kernel)) (fun _ _ _ _ _ => (pg_tup rfl (pgs_cons (pg_name (i := 5) sc_p_unbound.nd rfl (by first | exact Or.inl rfl | exact Or.inr rfl)) (pgs_cons (pg_name (i := 6) sc_p_unbound.nd rfl (by first | exact Or.inl rfl | exact Or.inr rfl)) pgs_nil)))) (fun _ _ _ _ _ => (pts_one (pt_cmpR op_gt (pv 6) pe_int (nomark _)))) (fun _ _ _ _ _ => (pv 5)))
      (pss_cons (ps_set (i := 7) sc_p_unbound.nd rfl (by first | exact Or.inl rfl | exact Or.inr rfl) (pe_op op_sub (pv 0) (pe_callB (cr_sum rfl) (by rfl) T.m_sum (by decide +kernel) (pa_cons (pe_lc (own := [("limit", 8), ("weight", 6)]) (g := gTup K 2 (gCons (gName 8) (gCons (gName 6) gNil))) (by rfl) sc_p_unbound.nd (pi_zip (by rfl) T.m_zip (pa_cons (pv 1) (pa_cons (pv 2) pa_nil))) (blkOk_by (own := [("limit", 8), ("weight", 6)]) (N := n_p_unbound) (sc := defScope s_p_unbound) (by decide +kernel)) (fun _ _ _ _ _ => (pg_tup rfl (pgs_cons (pg_name (i := 8) sc_p_unbound.nd rfl (by first | exact Or.inl rfl | exact Or.inr rfl)) (pgs_cons (pg_name (i := 6) sc_p_unbound.nd rfl (by first | exact Or.inl rfl | exact Or.inr rfl)) pgs_nil)))) (fun _ _ _ _ _ => (pts_one (pt_cmpR op_eq (pv 6) pe_int (nomark _)))) (fun _ _ _ _ _ => (pv 8))) pa_nil))))
      (pss_cons (ps_set (i := 9) sc_p_unbound.nd rfl (by first | exact Or.inl rfl | exact Or.inr rfl) (pe_callB (cr_sum rfl) (by rfl) T.m_sum (by decide +kernel) (pa_cons (pv 2) pa_nil)))
      (pss_one (ps_while PassesOwn.never (pt_val pe_bl)
      (pss_cons (ps_set (i := 10) sc_p_unbound.nd rfl (by first | exact Or.inl rfl | exact Or.inr rfl) (pe_lc (own := [("at", 5)]) (tt := (tB (tCallL _ _ _ _ _ (tCons (tOp (rIxL K) (tVar 1) (tVar 5)) (tCons (tOp (rIxL K) (tVar 2) (tVar 5)) (tCons (tVar 7) (tCons (tVar 9) tNil))))))) (by rfl) sc_p_unbound.nd (pi_list (pv 4)) (blkOk_by (own := [("at", 5)]) (N := n_p_unbound) (sc := defScope s_p_unbound) (by decide +kernel)) (fun _ _ _ _ _ => (pg_name (i := 5) sc_p_unbound.nd rfl (by first | exact Or.inl rfl | exact Or.inr rfl))) (fun _ _ _ _ _ => (pts_one (pt_val (pe_callL FB_binds (hr.mono (by decide)) (i := 3) rfl (by first | exact Or.inl rfl | exact Or.inr (Or.inl rfl) | exact Or.inr (Or.inr rfl)) kB_binds bB_binds .nil pass0 (pa_cons (pe_ix ix_list (pv 1) (pv 5) (fun _ _ => rfl)) (pa_cons (pe_ix ix_list (pv 2) (pv 5) (fun _ _ => rfl)) (pa_cons (pv 7) (pa_cons (pv 9) pa_nil)))))))) (fun _ _ _ _ _ => (pv 5))))
      (pss_cons (ps_if (pt_cmpR op_eq (pe_callB call_len (by rfl) T.m_len (by decide +kernel) (pa_cons (pv 10) pa_nil)) pe_int (nomark _))
      (pss_one (ps_ret (pe_tup (pa_cons (pv 4) (pa_cons (pv 7) (pa_cons (pv 9) pa_nil))))))
      pss_nil)
      (pss_cons (ps_aug (i := 7) sc_p_unbound.nd rfl (by first | exact Or.inl rfl | exact Or.inr rfl) (pe_callB (cr_sum rfl) (by rfl) T.m_sum (by decide +kernel) (pa_cons (pe_lc (own := [("at", 5)]) (te := (tOp (rIxL K) (tVar 1) (tVar 5))) (by rfl) sc_p_unbound.nd (pi_list (pv 10)) (blkOk_by (own := [("at", 5)]) (N := n_p_unbound) (sc := defScope s_p_unbound) (by decide +kernel)) (fun _ _ _ _ _ => (pg_name (i := 5) sc_p_unbound.nd rfl (by first | exact Or.inl rfl | exact Or.inr rfl))) (fun _ _ _ _ _ => pts_nil) (fun _ _ _ _ _ => (pe_ix ix_list (pv 1) (pv 5) (fun _ _ => rfl)))) pa_nil)) ip_sub)
      (pss_cons (ps_aug (i := 9) sc_p_unbound.nd rfl (by first | exact Or.inl rfl | exact Or.inr rfl) (pe_callB (cr_sum rfl) (by rfl) T.m_sum (by decide +kernel) (pa_cons (pe_lc (own := [("at", 5)]) (te := (tOp (rIxL K) (tVar 2) (tVar 5))) (by rfl) sc_p_unbound.nd (pi_list (pv 10)) (blkOk_by (own := [("at", 5)]) (N := n_p_unbound) (sc := defScope s_p_unbound) (by decide +kernel)) (fun _ _ _ _ _ => (pg_name (i := 5) sc_p_unbound.nd rfl (by first | exact Or.inl rfl | exact Or.inr rfl))) (fun _ _ _ _ _ => pts_nil) (fun _ _ _ _ _ => (pe_ix ix_list (pv 2) (pv 5) (fun _ _ => rfl)))) pa_nil)) ip_sub)
      (pss_one (ps_setLc (i := 4) (own := [("at", 5)]) (tt := (tTest (tOp (rIn K true) (tVar 5) (tVar 10)))) (by rfl) sc_p_unbound.nd rfl rfl (sw_true rfl rfl rfl (by decide +kernel)) (pi_list (pv 4)) (blkOk_by (own := [("at", 5)]) (N := n_p_unbound) (sc := defScope s_p_unbound) (by decide +kernel)) (fun _ _ _ _ _ => (pg_name (i := 5) sc_p_unbound.nd rfl (by first | exact Or.inl rfl | exact Or.inr rfl))) (fun _ _ _ _ _ => (pts_one (pt_cmpR op_notIn_seq (pv 5) (pv 10) (by rfl)))) (fun _ _ _ _ _ => (pv 5))))))))))))), ?_⟩
  refine ⟨_, rfl, wa, _, rfl, .of hwa, fun D nD => lcF_enum (K := K) (as := ps) (fun x => V.int x.2) (fun y => if p0 y.1 = true then some y else none) eI (.of hwa) nD (by omega) ?_ ?_⟩
  · intro i x H' A' B' hx sm ka kb
    refine ⟨rfl, _, rfl, _, _, rfl, rfl, _, rfl, ite2 (fun e => ?_) (fun e => ?_)⟩
    · exact ⟨_, rfl, ka (x, i) _ (if_pos e) (Same.refl _)⟩
    · exact kb _ (if_neg e) (Same.refl _)
  intro H1 s1 e1
  rw [fm_filter (fun y : Pr × Nat => p0 y.1)] at e1
  refine ⟨_, rfl, _, rfl, _, rfl, la, wa, _, _, rfl, .of (s1 _ _ hla), .of (s1 _ _ hwa), fun D2 n2 => lcF_zip (K := K) (as := ps) (bs := ps) (fun x => ov x.1) (fun x => V.int x.2) (fun x y => if y.2 = 0 then some (lim x) else none) V.int (.of (s1 _ _ hla)) (.of (s1 _ _ hwa)) n2 (by omega) ?_ ?_⟩
  · intro i x y H' A' B' hx hy sm ka kb
    rw [hx] at hy
    cases hy
    refine ⟨rfl, _, rfl, rfl, _, rfl, ite2 (fun e => ?_) (fun e => ?_)⟩
    · have e0 : x.2 = 0 := by
        have := of_decide_eq_true e
        exact V.int.inj this
      refine ⟨_, rfl, ?_⟩
      rw [ov_some (lv.known x (List.mem_of_getElem? hx) (decide_eq_false (by omega)))]
      exact ka _ _ (if_pos e0) (Same.refl _)
    · refine kb _ (if_neg fun z => e ?_) (Same.refl _)
      rw [z]
      exact decide_eq_true rfl
  intro H2 s2 e2
  rw [fm_zip_self (fun (x y : Pr) => if y.2 = 0 then some (lim x) else none) ps, fm_zero ps ft.good.w0] at e2
  refine ⟨D2, _, rfl, .of e2, _, _, rfl, rfl, ?_⟩
  have hw2 : H2 wa = some (.lst ((ps.map fun x => x.2).map V.int)) := by
    rw [List.map_map]
    exact s2 _ _ (s1 _ _ hwa)
  refine ⟨_, rfl, wa, _, rfl, .of hw2, ?_⟩
  rw [← sumW_p0 ps ft.good.w0]
  refine ⟨WU H total la wa fa cap ps, ⟨_, p0, _, _, D, none, none, none, none, rfl, lv, s2 _ _ e1, s1.trans s2, rfl⟩, ?_⟩
  rintro m σ H' ⟨p, room, W, fl, v5, v6, v8, v10, rfl, L, hfl, sm, rfl⟩
  have hla' := sm _ _ hla
  have hwa' := sm _ _ hwa
  obtain ⟨b1, b2⟩ := L.small ft
  have sr : small room := small_le L.r0 b1 ft.t1
  have sw : small W := small_le (Int.le_of_lt L.w0) b2 ft.w1
  have kn : ∀ x ∈ ps, cap = false → x.1 ≠ none := fun x hx e => by
    have := L.over
    rw [if_neg (by rw [e]; decide)] at this
    exact this.1 x hx
  refine ⟨true, rfl, iteT ⟨fun σ' H'' => ∃ m', m' < (ps.zipIdx.filter fun x => p x.1).length ∧ WU H total la wa fa cap ps m' σ' H'', fun _ _ h => h, ?_⟩⟩
  refine ⟨_, rfl, fl, rfl, ⟨_, .of hfl⟩, fun B nB => lcF_list (K := K) (as := ps.zipIdx.filter fun x => p x.1) eI (fun y => if bnd cap y.1 room W = true then some y else none) eI (.of hfl) nB (Nat.le_trans (zlen _ _) (by omega)) ?_ ?_⟩
  · intro i x H3 A' B' hx s3 ka kb
    have hxm := (List.mem_filter.mp (List.mem_of_getElem? hx)).1
    have hp := zidx hxm
    have hpm := List.mem_of_getElem? hp
    refine ⟨rfl, rfl, _, rfl, _, rfl, la, _, _, _, rfl, rfl, .of (s3 _ _ hla'), atI_nat (j := x.2) (by rw [List.getElem?_map, hp]; rfl), _, rfl, _, rfl, wa, _, _, _, rfl, rfl, .of (s3 _ _ hwa'), atI_nat (j := x.2) (by rw [List.getElem?_map, hp]; rfl), _, rfl, _, rfl,
      x.1, room, W, rfl, kn x.1 hpm, ft.l1 x.1 hpm, ft.small_w x.1 hpm, sr, sw, _, rfl, ite2 (fun e => ?_) (fun e => ?_)⟩
    · exact ⟨_, rfl, ka x _ (if_pos e) (Same.refl _)⟩
    · exact kb _ (if_neg e) (Same.refl _)
  intro H3 s3 e3
  rw [fm_filter (fun y : Pr × Nat => bnd cap y.1 room W), ff] at e3
  have hla3 := s3 _ _ hla'
  have hwa3 := s3 _ _ hwa'
  have hfl3 := s3 _ _ hfl
  refine ⟨_, rfl, _, _, rfl, .inl ⟨_, .of e3, rfl⟩, rfl, _, rfl, ite2 (fun e => ?_) (fun e => ?_)⟩
  · have e0 : (ps.zipIdx.filter fun x => p x.1 && bnd cap x.1 room W) = [] := by
      have h1 := V.int.inj (of_decide_eq_true e)
      rw [List.length_map] at h1
      exact List.eq_nil_of_length_eq_zero (by omega)
    have hn : ∀ x ∈ ps, p x = true → bnd cap x room W = false := fun x hx px => by
      cases eb : bnd cap x room W with
      | false => rfl
      | true =>
        obtain ⟨i, hi⟩ := List.getElem?_of_mem hx
        have : (x, i) ∈ ps.zipIdx.filter fun x => p x.1 && bnd cap x.1 room W := List.mem_filter.mpr ⟨List.mem_zipIdx_iff_getElem?.mpr hi, by simp [px, eb]⟩
        rw [e0] at this
        cases this
    have es : (ps.zipIdx.filter fun x => p x.1) = frI cap room W ps := List.filter_congr fun x hx => L.same hn x.1 (List.mem_of_getElem? (zidx hx))
    refine ⟨_, rfl, _, rfl, _, rfl, (by show 3 ≤ sizeLine; decide), fun t nt => ?_⟩
    refine q t fl room W _ ?_ (L.fix hn) b1 b2 upd_same ?_ ((sm.trans s3).trans (same_upd nt))
    · cases eh : H t with
      | none => rfl
      | some o =>
        rw [s3 _ _ (sm _ _ eh)] at nt
        cases nt
    · rw [← es]
      exact same_upd nt _ _ hfl3
  have kb : ∀ y ∈ (ps.zipIdx.filter fun x => p x.1 && bnd cap x.1 room W), ps[y.2]? = some y.1 ∧ y.1.1 ≠ none := fun y hy => by
    obtain ⟨h1, h2⟩ := List.mem_filter.mp hy
    have hp := zidx h1
    refine ⟨hp, ?_⟩
    cases ec : cap with
    | false => exact kn _ (List.mem_of_getElem? hp) ec
    | true =>
      rw [ec] at h2
      simp at h2
      exact (bnd_cap h2.2).1
  have lb : (ps.zipIdx.filter fun x => p x.1 && bnd cap x.1 room W).length ≤ 40000 := Nat.le_trans (zlen _ _) (by omega)
  refine ⟨_, rfl, _, rfl, B, rfl, ⟨_, .of e3⟩, fun D4 n4 => lcF_list (K := K) (as := ps.zipIdx.filter fun x => p x.1 && bnd cap x.1 room W) eI (fun y => some (lim y.1)) V.int (.of e3) n4 lb ?_ ?_⟩
  · intro i x H4 A' B' hx s4 ka kb'
    obtain ⟨hp, hk⟩ := kb x (List.mem_of_getElem? hx)
    refine ⟨rfl, yes_if ⟨_, rfl, _, rfl, la, _, _, _, rfl, rfl, .of (s4 _ _ hla3), atI_nat (j := x.2) (by rw [List.getElem?_map, hp]; rfl), ?_⟩⟩
    show A' (ov x.1.1) H4
    rw [ov_some hk]
    exact ka _ _ rfl (Same.refl _)
  intro H4 s4 e4
  rw [fm_some] at e4
  refine ⟨D4, _, rfl, .of e4, _, _, rfl, rfl, ?_⟩
  refine ⟨_, rfl, _, rfl, B, rfl, ⟨_, .of (s4 _ _ e3)⟩, fun D5 n5 => lcF_list (K := K) (as := ps.zipIdx.filter fun x => p x.1 && bnd cap x.1 room W) eI (fun y => some y.1.2) V.int (.of (s4 _ _ e3)) n5 lb ?_ ?_⟩
  · intro i x H5 A' B' hx s5 ka kb'
    obtain ⟨hp, hk⟩ := kb x (List.mem_of_getElem? hx)
    exact ⟨rfl, yes_if ⟨_, rfl, _, rfl, wa, _, _, _, rfl, rfl, .of (s5 _ _ (s4 _ _ hwa3)), atI_nat (j := x.2) (by rw [List.getElem?_map, hp]; rfl), ka _ _ rfl (Same.refl _)⟩⟩
  intro H5 s5 e5
  rw [fm_some] at e5
  refine ⟨D5, _, rfl, .of e5, _, _, rfl, rfl, ?_⟩
  have hfl5 := s5 _ _ (s4 _ _ hfl3)
  have eB5 := s5 _ _ (s4 _ _ e3)
  refine ⟨_, rfl, fl, rfl, ⟨_, .of hfl5⟩, fun D6 n6 => lcF_list (K := K) (as := ps.zipIdx.filter fun x => p x.1) eI (fun y => if (!bnd cap y.1 room W) = true then some y else none) eI (.of hfl5) n6 (Nat.le_trans (zlen _ _) (by omega)) ?_ ?_⟩
  · intro i x H6 A' B' hx s6 ka kb'
    obtain ⟨hxm, hpx⟩ := List.mem_filter.mp (List.mem_of_getElem? hx)
    have hin : inV (eI x) ((ps.zipIdx.filter fun x => p x.1 && bnd cap x.1 room W).map eI) = bnd cap x.1 room W := by
      rw [inV_idx (ps := ps) (fun y hy => (List.mem_filter.mp hy).1) hxm]
      cases eb : bnd cap x.1 room W with
      | true => exact decide_eq_true (List.mem_filter.mpr ⟨hxm, by simp [hpx, eb]⟩)
      | false =>
        refine decide_eq_false fun z => ?_
        have z2 := (List.mem_filter.mp z).2
        simp [eb] at z2
    refine ⟨rfl, _, rfl, _, rfl, B, _, rfl, .inl (.of (s6 _ _ eB5)), rfl, flat_eI _, _, rfl, ?_⟩
    show if (!inV (eI x) ((ps.zipIdx.filter fun x => p x.1 && bnd cap x.1 room W).map eI)) = true then _ else _
    rw [hin]
    refine ite2 (fun e => ?_) (fun e => ?_)
    · exact ⟨_, rfl, ka x _ (if_pos e) (Same.refl _)⟩
    · exact kb' _ (if_neg e) (Same.refl _)
  intro H6 s6 e6
  rw [fm_filter (fun y : Pr × Nat => !bnd cap y.1 room W), ff] at e6
  have LS := L.step ft.good
  have z1 : ((ps.zipIdx.filter fun x => p x.1 && bnd cap x.1 room W).map fun y => lim y.1).sum = sumL (ps.filter fun x => p x && bnd cap x room W) := by
    rw [zip_fst (fun x => p x && bnd cap x room W) lim]
    rfl
  have z2 : ((ps.zipIdx.filter fun x => p x.1 && bnd cap x.1 room W).map fun y => y.1.2).sum = sumW (ps.filter fun x => p x && bnd cap x room W) := by
    rw [zip_fst (fun x => p x && bnd cap x room W) (fun x => x.2)]
    rfl
  have hne : 0 < (ps.zipIdx.filter fun x => p x.1 && bnd cap x.1 room W).length := by
    rcases Nat.eq_zero_or_pos (ps.zipIdx.filter fun x => p x.1 && bnd cap x.1 room W).length with h0 | h0
    · exfalso
      apply e
      rw [List.length_map, h0]
      exact decide_eq_true rfl
    · exact h0
  have hlen := filter_split_len (fun x : Pr × Nat => p x.1) (fun x => bnd cap x.1 room W) ps.zipIdx
  refine ⟨_, ?_, fun x => p x && !bnd cap x room W, _, _, D6, _, _, _, _, rfl, ?_, e6, (((sm.trans s3).trans s4).trans s5).trans s6, rfl⟩
  · show (ps.zipIdx.filter fun x => p x.1 && !bnd cap x.1 room W).length < _
    omega
  · show Lev cap total ps _ (room - _) (W - _)
    rw [z1, z2]
    exact LS
end

/-! ### dealt, levelled -/
theorem sback {H H' : Hp} {p : Addr} (s : Same H H') (n : H' p = none) : H p = none := by
  cases e : H p with
  | none => rfl
  | some o =>
    rw [s _ _ e] at n
    cases n
theorem ixN_at {n j : Nat} (hj : j < n) : ixN n (j : Int) = some j := by
  unfold ixN
  rw [if_pos (by omega), if_pos (by omega)]
  simp
def lims1 (x : Pr) : Pr := if 0 < x.2 then x else (some 0, x.2)
def lims (ps : List Pr) : List Pr := ps.map lims1
def allCapped (total : Int) (ps : List Pr) : Prop := (∀ x ∈ lims ps, x.1 ≠ none) ∧ sumL (lims ps) ≤ total
def Dealt (total : Int) (ps : List Pr) (lv : Option (Int × Int)) (parts : List Int) : Prop :=
  (allCapped total ps ∧ lv = none ∧ parts = (lims ps).map lim) ∨ (¬ allCapped total ps ∧ ∃ room W, Fix true total (lims ps) room W ∧ lv = some (low room W) ∧ parts = runP room W (free true room W) 0 (lims ps))
def Levelled (total : Int) (ps : List Pr) (lv : Option (Int × Int)) (parts : List Int) : Prop :=
  ((sumW ps = 0 ∨ total ≤ sumL ps) ∧ lv = none ∧ parts = ps.map lim) ∨ (¬ (sumW ps = 0 ∨ total ≤ sumL ps) ∧ ∃ room W, Fix false total ps room W ∧ lv = some (low room W) ∧ parts = runP room W (free false room W) 0 ps)
def spDealt : Sp := fun vs H Q _ => ∃ (total : Int) (ca wa : Addr) (ps : List Pr), vs = [.int total, .ref ca, .ref wa] ∧ H ca = some (.lst (ps.map fun x => ov x.1)) ∧ H wa = some (.lst (ps.map fun x => .int x.2)) ∧ Fits total ps ∧
  ∀ t p lvv lv parts H', H t = none → H p = none → Dealt total ps lv parts → H' t = some (.tup [lvv, .ref p]) → LvAt H' lvv lv → H' p = some (.lst (parts.map V.int)) → Same H H' → Q (.ref t) H'
def spLevelled : Sp := fun vs H Q _ => ∃ (total : Int) (ca wa : Addr) (ps : List Pr), vs = [.int total, .ref ca, .ref wa] ∧ H ca = some (.lst (ps.map fun x => ov x.1)) ∧ H wa = some (.lst (ps.map fun x => .int x.2)) ∧ (∀ x ∈ ps, x.1 ≠ none) ∧ Fits total ps ∧
  ∀ t p lvv lv parts H', H t = none → H p = none → Levelled total ps lv parts → H' t = some (.tup [lvv, .ref p]) → LvAt H' lvv lv → H' p = some (.lst (parts.map V.int)) → Same H H' → Q (.ref t) H'
theorem lims_w (ps : List Pr) : (lims ps).map (fun x => V.int x.2) = ps.map fun x => V.int x.2 := by
  unfold lims
  rw [List.map_map]
  refine List.map_congr_left fun x _ => ?_
  show V.int (lims1 x).2 = V.int x.2
  unfold lims1
  split <;> rfl
theorem lims_sumW (ps : List Pr) : sumW (lims ps) = sumW ps := by
  unfold sumW lims
  rw [List.map_map]
  congr 1
  refine List.map_congr_left fun x _ => ?_
  show (lims1 x).2 = x.2
  unfold lims1
  split <;> rfl
theorem fits_lims {total : Int} {ps : List Pr} (h : Fits total ps) : Fits total (lims ps) := by
  have key : ∀ y ∈ lims ps, ∃ x ∈ ps, y = lims1 x := fun y hy => by
    obtain ⟨x, hx, e⟩ := List.mem_map.mp hy
    exact ⟨x, hx, e.symm⟩
  refine ⟨⟨fun y hy => ?_, fun y hy => ?_⟩, h.t0, h.t1, fun y hy => ?_, by rw [lims_sumW]; exact h.w1, by unfold lims; rw [List.length_map]; exact h.n1⟩
  · obtain ⟨x, hx, rfl⟩ := key y hy
    have := h.good.w0 x hx
    unfold lims1
    split <;> exact this
  · obtain ⟨x, hx, rfl⟩ := key y hy
    have := h.good.l0 x hx
    unfold lims1
    split
    · exact this
    · exact Int.le_refl 0
  · obtain ⟨x, hx, rfl⟩ := key y hy
    have := h.l1 x hx
    unfold lims1
    split
    · exact this
    · exact Nat.two_pow_pos 400
theorem lims_not {ps : List Pr} {x : Pr} (hx : x ∈ lims ps) (h : p0 x = false) : x.1 = some 0 := by
  obtain ⟨y, _, rfl⟩ := List.mem_map.mp hx
  unfold lims1 at h ⊢
  split
  · rename_i h1
    rw [if_pos h1] at h
    rw [show p0 y = true from decide_eq_true h1] at h
    cases h
  · rfl
theorem sum_zero {α : Type} (f : α → Int) : ∀ l : List α, (∀ x ∈ l, f x = 0) → (l.map f).sum = 0
  | [], _ => rfl
  | x :: r, h => by
    rw [List.map_cons, List.sum_cons, h x List.mem_cons_self, sum_zero f r fun y hy => h y (List.mem_cons_of_mem _ hy)]
    rfl
theorem lev0_cap {total : Int} {ps : List Pr} (ft : Fits total ps) (h : ¬ allCapped total ps) : Lev0 true total (lims ps) := by
  have z : sumL ((lims ps).filter fun x => !p0 x) = 0 := sum_zero lim _ fun x hx => by
    obtain ⟨h1, h2⟩ := List.mem_filter.mp hx
    unfold lim
    rw [lims_not h1 (by simpa using h2)]
    rfl
  have s1 := sum_split1 lim p0 (lims ps)
  have ov : (∃ x ∈ lims ps, p0 x = true ∧ x.1 = none) ∨ total < sumL ((lims ps).filter p0) := by
    by_cases hn : ∃ x ∈ lims ps, x.1 = none
    · obtain ⟨x, hx, e⟩ := hn
      left
      refine ⟨x, hx, ?_, e⟩
      cases hp : p0 x with
      | true => rfl
      | false => rw [lims_not hx hp] at e; cases e
    · right
      have hk : ∀ x ∈ lims ps, x.1 ≠ none := fun x hx e => hn ⟨x, hx, e⟩
      have : ¬ sumL (lims ps) ≤ total := fun z => h ⟨hk, z⟩
      unfold sumL at this z ⊢
      omega
  unfold Lev0
  rw [z]
  refine ⟨fun x _ hp => of_decide_eq_true hp, rfl, by rw [z], filter_pos (fun x _ hp => of_decide_eq_true hp) ?_, by have := ft.t0; omega, fun x _ hx hp => ?_, fun x hx hp => by rw [lims_not hx hp]; simp, ?_⟩
  · rcases ov with ⟨x, hx, hp, _⟩ | h1
    · exact ⟨x, hx, hp⟩
    · by_cases hn : ∃ x ∈ lims ps, p0 x = true
      · exact hn
      · rw [none_free hn] at h1
        have : sumL [] = 0 := rfl
        have := ft.t0
        omega
  · rw [show p0 x = true from decide_eq_true hx] at hp
    cases hp
  · rw [if_pos rfl]
    rcases ov with h1 | h1
    · exact .inl h1
    · exact .inr (by omega)
theorem lev0_flo {total : Int} {ps : List Pr} (ft : Fits total ps) (hk : ∀ x ∈ ps, x.1 ≠ none) (h : ¬ (sumW ps = 0 ∨ total ≤ sumL ps)) : Lev0 false total ps := by
  have s1 := sum_split1 lim p0 ps
  have g1 := sum_nonneg lim (ps.filter p0) fun x hx => ft.good.l0 x (List.mem_filter.mp hx).1
  have g2 := sum_nonneg (fun x : Pr => x.2) ps fun x hx => ft.good.w0 x hx
  have e1 := sumW_p0 ps ft.good.w0
  have h1 : ¬ sumW ps = 0 := fun z => h (.inl z)
  have h2 : ¬ total ≤ sumL ps := fun z => h (.inr z)
  unfold sumL at h2
  unfold sumW at h1
  refine ⟨fun x _ hp => of_decide_eq_true hp, rfl, rfl, by rw [e1]; omega, ?_, fun x _ hx hp => ?_, fun x hx _ => hk x hx, ?_⟩
  · unfold sumL
    omega
  · rw [show p0 x = true from decide_eq_true hx] at hp
    cases hp
  · rw [if_neg (by decide)]
    refine ⟨hk, ?_⟩
    unfold sumL
    omega
theorem ovs_known {ps : List Pr} (h : ∀ x ∈ ps, x.1 ≠ none) : (ps.map fun x => ov x.1) = (ps.map lim).map V.int := by
  rw [List.map_map]
  exact List.map_congr_left fun x hx => ov_some (h x hx)
theorem ovs_runP {room W : Int} {f : Pr → Bool} {ps : List Pr} (h : ∀ x ∈ ps, f x = false → x.1 ≠ none) :
    setAll (ps.map fun x => ov x.1) ((((ps.zipIdx).filter fun x => f x.1).map fun x => x.2).zip ((runs room W 0 ((ps.zipIdx.filter fun x => f x.1).map fun x => x.1.2)).map V.int)) = (runP room W f 0 ps).map V.int :=
  setAll_run room W f V.int (fun x => ov x.1) ps [] 0 fun x hx hf => ov_some (h x hx hf)
theorem flat_ov (ps : List Pr) : (ps.map fun x => ov x.1).all flatV = true := by
  rw [List.all_eq_true]
  intro v hv
  obtain ⟨⟨c, _⟩, _, rfl⟩ := List.mem_map.mp hv
  cases c <;> rfl
theorem in_none (ps : List Pr) : inV .non (ps.map fun x => ov x.1) = decide (¬ ∀ x ∈ ps, x.1 ≠ none) := by
  unfold inV
  by_cases h : ∀ x ∈ ps, x.1 ≠ none
  · rw [decide_eq_false fun z => z h, List.any_eq_false]
    intro v hv e
    obtain ⟨x, hx, rfl⟩ := List.mem_map.mp hv
    simp only [ov_some (h x hx)] at e
    cases e
  · rw [decide_eq_true h, List.any_eq_true]
    have : ∃ x ∈ ps, x.1 = none := by
      refine Classical.byContradiction fun z => h fun x hx e => z ⟨x, hx, e⟩
    obtain ⟨x, hx, e⟩ := this
    refine ⟨ov x.1, List.mem_map.mpr ⟨x, hx, rfl⟩, ?_⟩
    rw [e]
    rfl
section
variable {P : Program} {w : World} {K : PySem.W.Frag} {mg : Str → Option Value} {base : Heap}
theorem ok_by_level (T : Txt K mg) : Ok P w K mg base CX0 "by_level" s_p_by_level 3 ["total", "limits", "weights", "binds"] (spBy mg) := by
  have O_p_unbound := ok_unbound (P := P) (w := w) (base := base) T
  have O_p_running_parts := ok_running (P := P) (w := w) (base := base) T
  have O_p_in_lowest_terms := ok_low (P := P) (w := w) (base := base) T
  refine T.h_p_by_level.ok sc_p_by_level (fun vs H Q E h => ?_) (fun f cdv A outer s H vs Q E hr h => ?_)
  · obtain ⟨_, _, _, _, _, _, rfl, _⟩ := h; rfl
  obtain ⟨total, la, wa, fa, cap, ps, rfl, hf, hla, hwa, ft, lv, q⟩ := h
  have n1 := ft.n1
  refine ⟨_, (pss_cons (ps_asg (callO O_p_unbound (hr.mono (by decide)) (by rfl) (pa_cons (pv 0) (pa_cons (pv 1) (pa_cons (pv 2) (pa_cons (pv 3) pa_nil))))) (pg_tup rfl (pgs_cons (pg_name (i := 4) sc_p_by_level.nd rfl (by first | exact Or.inl rfl | exact Or.inr rfl)) (pgs_cons (pg_name (i := 5) sc_p_by_level.nd rfl (by first | exact Or.inl rfl | exact Or.inr rfl)) (pgs_cons (pg_name (i := 6) sc_p_by_level.nd rfl (by first | exact Or.inl rfl | exact Or.inr rfl)) pgs_nil)))))
      (pss_cons (ps_set (i := 7) sc_p_by_level.nd rfl (by first | exact Or.inl rfl | exact Or.inr rfl) (pe_callTy call_list_of (by rfl) T.m_list (by decide +kernel) (pa_cons (pv 1) pa_nil)))
      (pss_cons (ps_for PassesOwn.never rfl (pi_zip (by rfl) T.m_zip (pa_cons (pv 4) (pa_cons (callO O_p_running_parts (hr.mono (by decide)) (by rfl) (pa_cons (pv 5) (pa_cons (pe_lc (own := [("place", 10)]) (te := (tOp (rIxL K) (tVar 2) (tVar 10))) (by rfl) sc_p_by_level.nd (pi_list (pv 4)) (blkOk_by (own := [("place", 10)]) (N := n_p_by_level) (sc := defScope s_p_by_level) (by decide +kernel)) (fun _ _ _ _ _ => (pg_name (i := 10) sc_p_by_level.nd rfl (by first | exact Or.inl rfl | exact Or.inr rfl))) (fun _ _ _ _ _ => pts_nil) (fun _ _ _ _ _ => (pe_ix ix_list (pv 2) (pv 10) (fun _ _ => rfl)))) pa_nil))) pa_nil))) (pg_tup rfl (pgs_cons (pg_name (i := 8) sc_p_by_level.nd rfl (by first | exact Or.inl rfl | exact Or.inr rfl)) (pgs_cons (pg_name (i := 9) sc_p_by_level.nd rfl (by first | exact Or.inl rfl | exact Or.inr rfl)) pgs_nil)))
      (pss_one (ps_asg (pv 9) (pg_sub (pv 7) (pv 8) set_list))))
      (pss_one (ps_ret (pe_tup (pa_cons (callO O_p_in_lowest_terms (hr.mono (by decide)) (by rfl) (pa_cons (pv 5) (pa_cons (pv 6) pa_nil))) (pa_cons (pv 7) pa_nil)))))))), ?_⟩
  refine ⟨_, rfl, _, rfl, _, rfl, _, rfl, total, la, wa, fa, cap, ps, rfl, hf, hla, hwa, ft, lv, fun t fl room W H1 nt fx b1 b2 et efl s1 => ⟨t, _, rfl, .of et, rfl, _, _, rfl, _, _, rfl, _, _, rfl, rfl, ?_⟩⟩
  have sr : small room := small_le fx.r0 b1 ft.t1
  have sw : small W := small_le (Int.le_of_lt fx.w0) b2 ft.w1
  refine ⟨_, rfl, la, _, rfl, .inl (.of (s1 _ _ hla)), fun Pp nP => ?_⟩
  have s2 := same_upd (o := .lst (ps.map fun x => ov x.1)) nP
  have eP : (upd H1 Pp (.lst (ps.map fun x => ov x.1))) Pp = some (.lst (ps.map fun x => ov x.1)) := upd_same
  generalize upd H1 Pp (.lst (ps.map fun x => ov x.1)) = H2 at s2 eP ⊢
  have hwa2 := s2 _ _ (s1 _ _ hwa)
  have hfl2 := s2 _ _ efl
  refine ⟨_, rfl, _, rfl, _, rfl, fl, rfl, ⟨_, .of hfl2⟩, fun D nD => lcF_list (K := K) (as := frI cap room W ps) eI (fun y => some y.1.2) V.int (.of hfl2) nD (Nat.le_trans (zlen _ _) (by omega)) ?_ ?_⟩
  · intro i x H3 A' B' hx s3 ka kb
    have hp := zidx (List.mem_filter.mp (List.mem_of_getElem? hx)).1
    exact ⟨rfl, yes_if ⟨_, rfl, _, rfl, wa, _, _, _, rfl, rfl, .of (s3 _ _ hwa2), atI_nat (j := x.2) (by rw [List.getElem?_map, hp]; rfl), ka _ _ rfl (Same.refl _)⟩⟩
  intro H3 s3 e3
  rw [fm_some] at e3
  have eW : ((frI cap room W ps).map fun y => y.1.2).sum = W := by
    unfold frI
    rw [zip_fst (free cap room W) (fun x => x.2)]
    exact fx.eW.symm
  refine ⟨room, D, _, rfl, e3, ?_, by rw [eW]; exact fx.w0, by rw [eW]; exact sw, sr, ?_, fun R H4 nR s4 eR => ?_⟩
  · intro n hn
    obtain ⟨y, hy, rfl⟩ := List.mem_map.mp hn
    exact ft.good.w0 _ (List.mem_of_getElem? (zidx (List.mem_filter.mp hy).1))
  · rw [List.length_map]
    exact Nat.le_trans (zlen _ _) (by omega)
  rw [eW] at eR
  have hfl4 := s4 _ _ (s3 _ _ hfl2)
  have eP4 := s4 _ _ (s3 _ _ eP)
  have nfl : fl ≠ Pp := ne_of_none efl nP
  have nR2 : R ≠ Pp := fun z => by
    rw [z] at nR
    rw [s3 _ _ eP] at nR
    cases nR
  have efl' : (frI cap room W ps).map eI = ((frI cap room W ps).map fun x => x.2).map fun (n : Nat) => V.int (n : Int) := by
    rw [List.map_map]
    rfl
  have hlen : (((frI cap room W ps).map fun x => x.2).zip ((runs room W 0 ((frI cap room W ps).map fun y => y.1.2)).map V.int)).length = min ((frI cap room W ps).map eI).length ((runs room W 0 ((frI cap room W ps).map fun y => y.1.2)).map V.int).length := by
    rw [List.length_zip, List.length_map, List.length_map, List.length_map]
  refine ⟨fl, R, _, _, rfl, .of hfl4, .of eR, for_it (L2.walk_zip (xs := (frI cap room W ps).map eI) (ys := (runs room W 0 ((frI cap room W ps).map fun y => y.1.2)).map V.int) hlen)
    (fun i σ H' => ∃ v8 v9 v10, σ = [some (.int total), some (.ref la), some (.ref wa), some (.ref fa), some (.ref fl), some (.int room), some (.int W), some (.ref Pp), v8, v9, v10] ∧ H' Pp = some (.lst (setAll (ps.map fun x => ov x.1) ((((frI cap room W ps).map fun x => x.2).zip ((runs room W 0 ((frI cap room W ps).map fun y => y.1.2)).map V.int)).take i))) ∧ Off Pp H4 H')
    ⟨none, none, none, rfl, eP4, Off.refl⟩ (fun i σ H' _ h => by
      obtain ⟨_, _, _, _, _, o⟩ := h
      exact ⟨.of (o _ _ hfl4 nfl), .of (o _ _ eR nR2)⟩) ?_ ?_⟩
  · rintro i y σ H' H'' hi ⟨v8, v9, v10, rfl, hP, o⟩ ⟨Tt, x, z, rfl, nT, rfl, hx, hz⟩
    replace hx : ((frI cap room W ps).map eI)[i]? = some x := hx
    replace hz : ((runs room W 0 ((frI cap room W ps).map fun y => y.1.2)).map V.int)[i]? = some z := hz
    rw [List.getElem?_map] at hx
    cases ex : (frI cap room W ps)[i]? with
    | none => rw [ex] at hx; cases hx
    | some yy =>
      rw [ex] at hx
      cases hx
      have hp := zidx (List.mem_filter.mp (List.mem_of_getElem? ex)).1
      have ez : (((frI cap room W ps).map fun x => x.2).zip ((runs room W 0 ((frI cap room W ps).map fun y => y.1.2)).map V.int))[i]? = some (yy.2, z) := by
        rw [List.getElem?_zip_eq_some]
        refine ⟨?_, hz⟩
        rw [List.getElem?_map, ex]
        rfl
      have hP2 := same_upd (o := .tup [eI yy, z]) nT _ _ hP
      have nTP : Tt ≠ Pp := (ne_of_none hP nT).symm
      refine ⟨Tt, _, rfl, .of upd_same, rfl, _, _, rfl, _, _, rfl, rfl, ?_⟩
      refine ⟨_, rfl, _, rfl, _, rfl, Pp, _, _, yy.2, rfl, rfl, hP2, ?_, ?_⟩
      · refine ixN_at ?_
        rw [setAll_len, List.length_map]
        exact (List.getElem?_eq_some_iff.mp hp).1
      refine ⟨_, _, _, rfl, ?_, ?_⟩
      · rw [upd_same, List.take_add_one, ez]
        show _ = some (HO.lst (setAll _ (_ ++ [(yy.2, z)])))
        rw [setAll_snoc]
      · exact (o.trans (off_new nT)).trans off_upd
  rintro σ H' ⟨v8, v9, v10, rfl, hP, o⟩
  rw [List.take_length] at hP
  rw [show (frI cap room W ps) = ps.zipIdx.filter (fun x => free cap room W x.1) from rfl, ovs_runP fx.known] at hP
  have e1 : (room.toNat : Int) = room := Int.toNat_of_nonneg fx.r0
  have e2 : (W.toNat : Int) = W := Int.toNat_of_nonneg (Int.le_of_lt fx.w0)
  have s5 : Same H H' := fun b x e => o b x (s4 _ _ (s3 _ _ (s2 _ _ (s1 _ _ e)))) (ne_of_none (s1 _ _ e) nP)
  refine ⟨_, rfl, _, rfl, room.toNat, W.toNat, by rw [e1, e2]; rfl, by have := fx.w0; omega, by rw [e1]; exact sr, by rw [e2]; exact sw, fun L H5 nL s6 eL => ⟨_, rfl, (by show 2 ≤ sizeLine; decide), fun t2 nt2 => ?_⟩⟩
  have s7 := same_upd (o := .tup [.ref L, .ref Pp]) nt2
  exact q t2 Pp (.ref L) room W _ (sback s5 (sback s6 nt2)) (sback s1 nP) fx upd_same ⟨L, rfl, s7 _ _ eL⟩ (s7 _ _ (s6 _ _ hP)) ((s5.trans s6).trans s7)
theorem ok_dealt (T : Txt K mg) : Ok P w K mg base CX0 "dealt" s_p_dealt 5 ["total", "caps", "weights"] spDealt := by
  have O_p_refuse_no_counts := ok_no_counts (P := P) (w := w) (base := base) T
  have O_p_refuse_no_list := ok_no_list (P := P) (w := w) (base := base) T
  have O_p_refuse_no_weights := ok_no_weights (P := P) (w := w) (base := base) T
  have O_p_by_level := ok_by_level (P := P) (w := w) (base := base) T
  obtain ⟨f_p_cap_binds, _, _, g_p_cap_binds, _⟩ := T.h_p_cap_binds
  refine T.h_p_dealt.ok sc_p_dealt (fun vs H Q E h => ?_) (fun f cdv A outer s H vs Q E hr h => ?_)
  · obtain ⟨_, _, _, _, rfl, _⟩ := h; rfl
  obtain ⟨total, ca, wa, ps, rfl, hca, hwa, ft, q⟩ := h
  have n1 := ft.n1
  refine ⟨_, (pss_cons (ps_expr (callO O_p_refuse_no_counts (hr.mono (by decide)) (by rfl) (pa_cons (pe_lst (pa_cons (pv 0) pa_nil)) pa_nil)))
      (pss_cons (ps_expr (callO O_p_refuse_no_list (hr.mono (by decide)) (by rfl) (pa_cons (pv 1) pa_nil)))
      (pss_cons (ps_expr (callO O_p_refuse_no_counts (hr.mono (by decide)) (by rfl) (pa_cons (pe_lc (own := [("cap", 3)]) (by rfl) sc_p_dealt.nd (pi_list (pv 1)) (blkOk_by (own := [("cap", 3)]) (N := n_p_dealt) (sc := defScope s_p_dealt) (by decide +kernel)) (fun _ _ _ _ _ => (pg_name (i := 3) sc_p_dealt.nd rfl (by first | exact Or.inl rfl | exact Or.inr rfl))) (fun _ _ _ _ _ => (pts_one (pt_cmpR op_notN (pv 3) pe_non (nomark _)))) (fun _ _ _ _ _ => (pv 3))) pa_nil)))
      (pss_cons (ps_expr (callO O_p_refuse_no_weights (hr.mono (by decide)) (by rfl) (pa_cons (pv 2) (pa_cons (pe_callB call_len (by rfl) T.m_len (by decide +kernel) (pa_cons (pv 1) pa_nil)) pa_nil))))
      (pss_cons (ps_setLc (i := 4) (own := [("cap", 3), ("weight", 5)]) (g := gTup K 2 (gCons (gName 3) (gCons (gName 5) gNil))) (by rfl) sc_p_dealt.nd rfl rfl (sw_true rfl rfl rfl (by decide +kernel)) (pi_zip (by rfl) T.m_zip (pa_cons (pv 1) (pa_cons (pv 2) pa_nil))) (blkOk_by (own := [("cap", 3), ("weight", 5)]) (N := n_p_dealt) (sc := defScope s_p_dealt) (by decide +kernel)) (fun _ _ _ _ _ => (pg_tup rfl (pgs_cons (pg_name (i := 3) sc_p_dealt.nd rfl (by first | exact Or.inl rfl | exact Or.inr rfl)) (pgs_cons (pg_name (i := 5) sc_p_dealt.nd rfl (by first | exact Or.inl rfl | exact Or.inr rfl)) pgs_nil)))) (fun _ _ _ _ _ => pts_nil) (fun _ _ _ _ _ => (pe_ifExp (pt_cmpR op_gt (pv 5) pe_int (nomark _)) (pv 3) pe_int)))
      (pss_cons (ps_if (PW.pt (pw_and (pt_cmpR op_notIn_seq pe_non (pv 4) (by rfl)) (pw_and1 (pt_cmpR op_le (pe_callB (cr_sum rfl) (by rfl) T.m_sum (by decide +kernel) (pa_cons (pv 4) pa_nil)) (pv 0) (nomark _)))))
      (pss_one (ps_ret (pe_tup (pa_cons pe_non (pa_cons (pv 4) pa_nil)))))
      pss_nil)
      (pss_one (ps_ret (callO O_p_by_level (hr.mono (by decide)) (by rfl) (pa_cons (pv 0) (pa_cons (pv 4) (pa_cons (pv 2) (pa_cons (pe_glob (v := .ref f_p_cap_binds) (by rfl) g_p_cap_binds rfl) pa_nil))))))))))))), ?_⟩
  refine ⟨_, rfl, (by show 1 ≤ sizeLine; decide), fun p1 m1 => ⟨p1, [total], rfl, upd_same, fun n hn => by rw [List.mem_singleton.mp hn]; exact ft.t0, ?_⟩⟩
  have s1 := same_upd (o := .lst [.int total]) m1
  show tSeq _ _ _ _ (upd H p1 (.lst [.int total]))
  generalize upd H p1 (.lst [.int total]) = H1 at s1 ⊢
  refine ⟨_, rfl, ca, _, rfl, s1 _ _ hca, ?_⟩
  refine ⟨_, rfl, ca, rfl, ⟨_, .of (s1 _ _ hca)⟩, fun D nD => lcF_list (K := K) (as := ps) (fun x => ov x.1) (fun x => x.1) V.int (.of (s1 _ _ hca)) nD (by omega) ?_ ?_⟩
  · rintro i ⟨c, wt⟩ H' A' B' hx sm ka kb
    cases c with
    | none => exact ⟨rfl, _, rfl, rfl, _, rfl, iteF (kb _ rfl (Same.refl _))⟩
    | some c => exact ⟨rfl, _, rfl, rfl, _, rfl, iteT ⟨_, rfl, ka _ _ rfl (Same.refl _)⟩⟩
  intro H2 s2 e2
  refine ⟨D, _, rfl, e2, fun n hn => ?_, ?_⟩
  · obtain ⟨x, hx, e⟩ := List.mem_filterMap.mp hn
    have := ft.good.l0 x hx
    unfold lim at this
    rw [e] at this
    exact this
  have s12 := s1.trans s2
  have hwa2 : H2 wa = some (.lst ((ps.map fun x => x.2).map V.int)) := by
    rw [List.map_map]
    exact s12 _ _ hwa
  refine ⟨_, rfl, _, rfl, _, _, rfl, .inl ⟨_, .of (s12 _ _ hca), rfl⟩, wa, ps.map fun x => x.2, ?_, hwa2, fun n hn => ?_, ?_⟩
  · rw [List.length_map, List.length_map]
    rfl
  · obtain ⟨x, hx, rfl⟩ := List.mem_map.mp hn
    exact ft.good.w0 x hx
  refine ⟨_, rfl, _, rfl, ca, wa, _, _, rfl, .of (s12 _ _ hca), .of (s12 _ _ hwa), fun L nL => lcF_zip (K := K) (as := ps) (bs := ps) (fun x => ov x.1) (fun x => V.int x.2) (fun x _ => some (lims1 x)) (fun x => ov x.1) (.of (s12 _ _ hca)) (.of (s12 _ _ hwa)) nL (by omega) ?_ ?_⟩
  · intro i x y H' A' B' hx hy sm ka kb
    rw [hx] at hy
    cases hy
    refine ⟨rfl, yes_if ⟨_, rfl, _, _, rfl, rfl, _, rfl, ite2 (fun e => ⟨_, rfl, ?_⟩) (fun e => ?_)⟩⟩
    · have h1 : 0 < x.2 := of_decide_eq_true e
      have := ka _ _ rfl (Same.refl H')
      unfold lims1 at this
      rw [if_pos h1] at this
      exact this
    · have h1 : ¬ 0 < x.2 := fun z => e (decide_eq_true z)
      have := ka _ _ rfl (Same.refl H')
      unfold lims1 at this
      rw [if_neg h1] at this
      exact this
  intro H3 s3 e3
  rw [fm_zip_self (fun (x _ : Pr) => some (lims1 x)) ps, fm_some] at e3
  replace e3 : H3 L = some (.lst ((lims ps).map fun x => ov x.1)) := e3
  have s13 := s12.trans s3
  have byl : ¬ allCapped total ps → tRet (tCall (spBy mg) [] E0 (tCons (tVar 0) (tCons (tVar 4) (tCons (tVar 2) (tCons (tC (.ref f_p_cap_binds)) tNil))))) { nx := fun _ H' => Q .non H', rt := Q } (List.set (L2.start n_p_dealt [V.int total, V.ref ca, V.ref wa]) 4 (some (.ref L))) H3 := fun hn => by
    refine ⟨_, rfl, _, rfl, _, rfl, total, L, wa, f_p_cap_binds, true, lims ps, rfl, ⟨g_p_cap_binds, by first | exact trivial | exact rfl⟩, e3, ?_, fits_lims ft, lev0_cap ft hn, fun t p lvv room W H' nt np fx et el ep sm => ?_⟩
    · rw [lims_w]
      exact s13 _ _ hwa
    · exact q t p lvv _ _ H' (sback s13 nt) (sback s13 np) (.inr ⟨hn, room, W, fx, rfl, rfl⟩) et el ep (s13.trans sm)
  refine ⟨_, rfl, L, _, rfl, .inl (.of e3), rfl, flat_ov _, _, rfl, ?_⟩
  rw [in_none]
  by_cases hk : ∀ x ∈ lims ps, x.1 ≠ none
  · rw [decide_eq_false fun z => z hk]
    have e4 := e3
    rw [ovs_known hk] at e4
    refine iteT ⟨_, rfl, L, _, rfl, .of e4, _, rfl, _, _, rfl, rfl, _, rfl, ite2 (fun e => ?_) (fun e => ?_)⟩
    · refine ⟨_, rfl, (by show 2 ≤ sizeLine; decide), fun t nt => ?_⟩
      have s4 := same_upd (o := .tup [.non, .ref L]) nt
      exact q t L .non none _ _ (sback s13 nt) (sback s12 nL) (.inl ⟨⟨hk, of_decide_eq_true e⟩, rfl, rfl⟩) upd_same rfl (s4 _ _ e4) (s13.trans s4)
    · exact byl fun z => e (decide_eq_true z.2)
  · rw [decide_eq_true hk]
    exact iteF (iteF (byl fun z => hk z.1))
theorem ok_levelled (T : Txt K mg) : Ok P w K mg base CX0 "levelled" s_p_levelled 5 ["total", "floors", "weights"] spLevelled := by
  have O_p_refuse_no_counts := ok_no_counts (P := P) (w := w) (base := base) T
  have O_p_refuse_no_list := ok_no_list (P := P) (w := w) (base := base) T
  have O_p_refuse_no_weights := ok_no_weights (P := P) (w := w) (base := base) T
  have O_p_by_level := ok_by_level (P := P) (w := w) (base := base) T
  obtain ⟨f_p_floor_binds, _, _, g_p_floor_binds, _⟩ := T.h_p_floor_binds
  refine T.h_p_levelled.ok sc_p_levelled (fun vs H Q E h => ?_) (fun f cdv A outer s H vs Q E hr h => ?_)
  · obtain ⟨_, _, _, _, rfl, _⟩ := h; rfl
  obtain ⟨total, ca, wa, ps, rfl, hca, hwa, hk, ft, q⟩ := h
  have n1 := ft.n1
  refine ⟨_, (pss_cons (ps_expr (callO O_p_refuse_no_counts (hr.mono (by decide)) (by rfl) (pa_cons (pe_lst (pa_cons (pv 0) pa_nil)) pa_nil)))
      (pss_cons (ps_expr (callO O_p_refuse_no_list (hr.mono (by decide)) (by rfl) (pa_cons (pv 1) pa_nil)))
      (pss_cons (ps_expr (callO O_p_refuse_no_counts (hr.mono (by decide)) (by rfl) (pa_cons (pv 1) pa_nil)))
      (pss_cons (ps_expr (callO O_p_refuse_no_weights (hr.mono (by decide)) (by rfl) (pa_cons (pv 2) (pa_cons (pe_callB call_len (by rfl) T.m_len (by decide +kernel) (pa_cons (pv 1) pa_nil)) pa_nil))))
      (pss_cons (ps_if (PW.pt (pw_or (pt_cmpR op_eq (pe_callB (cr_sum rfl) (by rfl) T.m_sum (by decide +kernel) (pa_cons (pv 2) pa_nil)) pe_int (nomark _)) (pw_or1 (pt_cmpR op_ge (pe_callB (cr_sum rfl) (by rfl) T.m_sum (by decide +kernel) (pa_cons (pv 1) pa_nil)) (pv 0) (nomark _)))))
      (pss_one (ps_ret (pe_tup (pa_cons pe_non (pa_cons (pe_callTy call_list_of (by rfl) T.m_list (by decide +kernel) (pa_cons (pv 1) pa_nil)) pa_nil)))))
      pss_nil)
      (pss_one (ps_ret (callO O_p_by_level (hr.mono (by decide)) (by rfl) (pa_cons (pv 0) (pa_cons (pv 1) (pa_cons (pv 2) (pa_cons (pe_glob (v := .ref f_p_floor_binds) (by rfl) g_p_floor_binds rfl) pa_nil)))))))))))), ?_⟩
  refine ⟨_, rfl, (by show 1 ≤ sizeLine; decide), fun p1 m1 => ⟨p1, [total], rfl, upd_same, fun n hn => by rw [List.mem_singleton.mp hn]; exact ft.t0, ?_⟩⟩
  have s1 := same_upd (o := .lst [.int total]) m1
  show tSeq _ _ _ _ (upd H p1 (.lst [.int total]))
  generalize upd H p1 (.lst [.int total]) = H1 at s1 ⊢
  have hca1 : H1 ca = some (.lst ((ps.map lim).map V.int)) := by
    rw [← ovs_known hk]
    exact s1 _ _ hca
  have hwa1 : H1 wa = some (.lst ((ps.map fun x => x.2).map V.int)) := by
    rw [List.map_map]
    exact s1 _ _ hwa
  refine ⟨_, rfl, ca, _, rfl, s1 _ _ hca, ?_⟩
  refine ⟨_, rfl, ca, _, rfl, hca1, fun n hn => ?_, ?_⟩
  · obtain ⟨x, hx, rfl⟩ := List.mem_map.mp hn
    exact ft.good.l0 x hx
  refine ⟨_, rfl, _, rfl, _, _, rfl, .inl ⟨_, .of (s1 _ _ hca), rfl⟩, wa, ps.map fun x => x.2, ?_, hwa1, fun n hn => ?_, ?_⟩
  · rw [List.length_map, List.length_map]
    rfl
  · obtain ⟨x, hx, rfl⟩ := List.mem_map.mp hn
    exact ft.good.w0 x hx
  have ret : (sumW ps = 0 ∨ total ≤ sumL ps) → tRet (tTup (tCons (tC .non) (tCons (tCB (fun xs H Q => ∃ p ys, xs = [.ref p] ∧ (SqL K H p ys ∨ SqT K H p ys) ∧ ∀ l, H l = none → Q (.ref l) (upd H l (.lst ys))) (tCons (tVar 1) tNil)) tNil))) { nx := fun _ H' => Q .non H', rt := Q } (L2.start n_p_levelled [V.int total, V.ref ca, V.ref wa]) H1 := fun hn => by
    refine ⟨_, rfl, ca, _, rfl, .inl (.of hca1), fun L nL => ⟨(by show 2 ≤ sizeLine; decide), fun t nt => ?_⟩⟩
    have s2 := same_upd (o := .lst ((ps.map lim).map V.int)) nL
    have s3 := same_upd (o := .tup [.non, .ref L]) nt
    exact q t L .non none _ _ (sback s1 (sback s2 nt)) (sback s1 nL) (.inl ⟨hn, rfl, rfl⟩) upd_same rfl (s3 _ _ upd_same) ((s1.trans s2).trans s3)
  refine ⟨_, rfl, wa, _, rfl, .of hwa1, rfl, _, rfl, ite2 (fun e => iteT ?_) (fun e => ?_)⟩
  · exact ret (.inl (V.int.inj (of_decide_eq_true e)))
  refine ⟨_, rfl, ca, _, rfl, .of hca1, _, rfl, _, _, rfl, rfl, _, rfl, ite2 (fun e2 => ?_) (fun e2 => ?_)⟩
  · exact ret (.inr (of_decide_eq_true e2))
  have hn : ¬ (sumW ps = 0 ∨ total ≤ sumL ps) := fun z => by
    rcases z with z | z
    · apply e
      unfold sumW at z
      rw [z]
      exact decide_eq_true rfl
    · exact e2 (decide_eq_true z)
  refine ⟨_, rfl, _, rfl, _, rfl, total, ca, wa, f_p_floor_binds, false, ps, rfl, ⟨g_p_floor_binds, by first | exact trivial | exact rfl⟩, s1 _ _ hca, s1 _ _ hwa, ft, lev0_flo ft hk hn, fun t p lvv room W H' nt np fx et el ep sm => ?_⟩
  exact q t p lvv _ _ H' (sback s1 nt) (sback s1 np) (.inr ⟨hn, room, W, fx, rfl, rfl⟩) et el ep (s1.trans sm)
end

/-! ### a level that is known -/
theorem mk_fits {α : Type} (f : α → Int) : ∀ (l : List α) (B : Int), (∀ x ∈ l, f x ≤ B) → 0 ≤ B → (l.map f).sum ≤ (l.length : Int) * B
  | [], B, _, _ => by simp
  | x :: r, B, h, hB => by
    have h1 := h x List.mem_cons_self
    have h2 := mk_fits f r B (fun y hy => h y (List.mem_cons_of_mem _ hy)) hB
    rw [List.map_cons, List.sum_cons, List.length_cons, Int.natCast_add, Int.add_mul]
    omega
def fnd (top : Int) (x : Pr) : Int := match x.1 with
  | none => x.2 * top
  | some c => if x.2 * top < c then x.2 * top else c
def fndF (top : Int) (x : Pr) : Int := if x.2 * top > lim x then x.2 * top else lim x
def wt (bot : Int) (x : Pr) : Pr := (x.1, x.2 * bot)
def above (top : Int) (x : Pr) : Bool := decide (0 < x.2) && (match x.1 with | none => true | some c => decide (x.2 * top < c))
section
variable {top bot : Int}
theorem free_wt (hb : 0 < bot) (x : Pr) (h0 : 0 ≤ x.2) : free true top bot (lims1 (wt bot x)) = above top x := by
  obtain ⟨c, u⟩ := x
  have h0 : 0 ≤ u := h0
  unfold lims1 wt above
  by_cases hu : 0 < u
  · have hw : 0 < u * bot := Int.mul_pos hu hb
    rw [if_pos hw]
    unfold free
    show (decide (0 < u * bot) && !bnd true (c, u * bot) top bot) = _
    rw [decide_eq_true hw, decide_eq_true hu]
    cases c with
    | none => rfl
    | some c =>
      show (!decide (c * bot ≤ top * (u * bot))) = decide (u * top < c)
      have e : top * (u * bot) = u * top * bot := by rw [← Int.mul_assoc, Int.mul_comm top u]
      rw [e]
      by_cases h : c ≤ u * top
      · rw [decide_eq_true (Int.mul_le_mul_of_nonneg_right h (Int.le_of_lt hb)), decide_eq_false (by omega)]
        rfl
      · rw [decide_eq_false (fun z => h (Int.le_of_mul_le_mul_right z hb)), decide_eq_true (by omega)]
        rfl
  · have hu0 : u = 0 := by omega
    subst hu0
    rw [if_neg (by simp)]
    unfold free
    show (decide (0 < 0 * bot) && _) = (decide ((0 : Int) < 0) && _)
    rw [Int.zero_mul]
    rfl
theorem lim_wt (hb : 0 < bot) (x : Pr) (h0 : 0 ≤ x.2) (hl : 0 ≤ lim x) (h : above top x = false) : lims1 (wt bot x) ≠ (none, x.2 * bot) ∧ (lims1 (wt bot x)).1 ≠ none ∧ lim (lims1 (wt bot x)) = fnd top x := by
  obtain ⟨c, u⟩ := x
  have h0 : 0 ≤ u := h0
  unfold lims1 wt fnd
  unfold above at h
  by_cases hu : 0 < u
  · have hw : 0 < u * bot := Int.mul_pos hu hb
    simp only [hw, if_true]
    simp only [hu, decide_true, Bool.true_and] at h
    cases c with
    | none => cases h
    | some c =>
      have h1 : ¬ u * top < c := of_decide_eq_false h
      refine ⟨by simp, by simp, ?_⟩
      show c = if u * top < c then u * top else c
      rw [if_neg h1]
  · have hu0 : u = 0 := by omega
    subst hu0
    simp only [Int.zero_mul, Int.lt_irrefl, if_false]
    refine ⟨by simp, by simp, ?_⟩
    cases c with
    | none => rfl
    | some c =>
      have : 0 ≤ c := hl
      show 0 = if 0 < c then 0 else c
      split <;> omega
theorem val_wt (hb : 0 < bot) (x : Pr) (h0 : 0 ≤ x.2) (hl : 0 ≤ lim x) : val true top bot (lims1 (wt bot x)) = fnd top x * bot := by
  unfold val
  rw [free_wt hb x h0]
  cases h : above top x with
  | true =>
    obtain ⟨c, u⟩ := x
    unfold above at h
    rw [Bool.and_eq_true] at h
    have hu : 0 < u := of_decide_eq_true h.1
    have hw : 0 < u * bot := Int.mul_pos hu hb
    rw [if_pos rfl]
    unfold lims1 wt fnd
    simp only [hw, if_true]
    have e : top * (u * bot) = u * top * bot := by rw [← Int.mul_assoc, Int.mul_comm top u]
    rw [e]
    cases c with
    | none => rfl
    | some c =>
      have h1 : u * top < c := of_decide_eq_true h.2
      show _ = (if u * top < c then u * top else c) * bot
      rw [if_pos h1]
  | false =>
    rw [if_neg (by decide), (lim_wt hb x h0 hl h).2.2]
theorem part_wt (hb : 0 < bot) (x : Pr) (h0 : 0 ≤ x.2) (hl : 0 ≤ lim x) : (if above top x = true then top * ((lims1 (wt bot x)).2 / bot) else lim (lims1 (wt bot x))) = fnd top x := by
  have e2 : (lims1 (wt bot x)).2 = x.2 * bot := by
    unfold lims1
    split <;> rfl
  cases h : above top x with
  | true =>
    rw [if_pos rfl, e2, Int.mul_ediv_cancel _ (by omega)]
    obtain ⟨c, u⟩ := x
    unfold above at h
    rw [Bool.and_eq_true] at h
    unfold fnd
    cases c with
    | none => exact Int.mul_comm _ _
    | some c =>
      have h1 : u * top < c := of_decide_eq_true h.2
      show top * u = if u * top < c then u * top else c
      rw [if_pos h1, Int.mul_comm]
  | false =>
    rw [if_neg (by decide), (lim_wt hb x h0 hl h).2.2]
end
theorem known_cap {t b : Nat} {ps : List Pr} (hb : 0 < b) (hg : Nat.gcd t b = 1) (g : Good ps) {lv : Option (Int × Int)} {parts : List Int} (h : Dealt (ps.map (fnd (t : Int))).sum (ps.map (wt (b : Int))) lv parts) :
    parts = ps.map (fnd (t : Int)) ∧ lv = if ps.any (above (t : Int)) = true then some ((t : Int), (b : Int)) else none := by
  have hb' : (0 : Int) < (b : Int) := by omega
  have el : lims (ps.map (wt (b : Int))) = ps.map fun x => lims1 (wt (b : Int) x) := by
    unfold lims
    rw [List.map_map]
    rfl
  cases hA : ps.any (above (t : Int)) with
  | true =>
    rw [List.any_eq_true] at hA
    obtain ⟨x, hx, ax⟩ := hA
    have V1 : Val true (ps.map (fnd (t : Int))).sum (lims (ps.map (wt (b : Int)))) (t : Int) (b : Int) := by
      refine ⟨hb', by omega, ?_, lims1 (wt (b : Int) x), ?_, ?_⟩
      · rw [el, List.map_map, ← sum_mulr]
        congr 1
        exact List.map_congr_left fun y hy => val_wt hb' y (g.w0 y hy) (g.l0 y hy)
      · rw [el]
        exact List.mem_map.mpr ⟨x, hx, rfl⟩
      · rw [free_wt hb' x (g.w0 x hx)]
        exact ax
    rcases h with ⟨hc, _⟩ | ⟨_, room, W, fx, rfl, rfl⟩
    · exfalso
      have := V1.over hc.1 fun y hy hy0 => by
        unfold val
        rw [if_neg]
        intro z
        have := (free_iff.mp z).1
        omega
      have := hc.2
      omega
    · have e := fx.val.unique V1
      refine ⟨?_, by rw [if_pos rfl, low_of e hg hb fx.w0 fx.r0]⟩
      have := runP_exact fx.w0 e (free true room W) (lims (ps.map (wt (b : Int)))) 0 (fun y hy => by
        rw [el] at hy
        obtain ⟨z, _, rfl⟩ := List.mem_map.mp hy
        refine ⟨z.2, ?_⟩
        unfold lims1
        split <;> rfl) hb'
      rw [Int.zero_mul] at this
      rw [this, el, List.map_map]
      refine List.map_congr_left fun y hy => ?_
      show (if free true room W (lims1 (wt (b : Int) y)) = true then _ else _) = _
      rw [free_same fx.w0 hb' e, free_wt hb' y (g.w0 y hy)]
      exact part_wt hb' y (g.w0 y hy) (g.l0 y hy)
  | false =>
    rw [List.any_eq_false] at hA
    have hA' : ∀ y ∈ ps, above (t : Int) y = false := fun y hy => by
      cases e : above (t : Int) y with
      | false => rfl
      | true => exact absurd e (hA y hy)
    have em : (lims (ps.map (wt (b : Int)))).map lim = ps.map (fnd (t : Int)) := by
      rw [el, List.map_map]
      exact List.map_congr_left fun y hy => (lim_wt hb' y (g.w0 y hy) (g.l0 y hy) (hA' y hy)).2.2
    have hc : allCapped (ps.map (fnd (t : Int))).sum (ps.map (wt (b : Int))) := by
      refine ⟨fun y hy => ?_, ?_⟩
      · rw [el] at hy
        obtain ⟨z, hz, rfl⟩ := List.mem_map.mp hy
        exact (lim_wt hb' z (g.w0 z hz) (g.l0 z hz) (hA' z hz)).2.1
      · unfold sumL
        rw [em]
        exact Int.le_refl _
    rcases h with ⟨_, rfl, rfl⟩ | ⟨hn, _⟩
    · exact ⟨em, by rw [if_neg (by decide)]⟩
    · exact absurd hc hn
theorem sumW_pos {ls : List Pr} (h : ∀ x ∈ ls, 0 ≤ x.2) (hx : ∃ x ∈ ls, 0 < x.2) : 0 < sumW ls := by
  have := sum_lt (fun _ => 0) (fun x => x.2) (ls := ls) h hx
  rw [sum_zero (fun _ => 0) ls fun _ _ => rfl] at this
  exact this
theorem free_wtF {top bot : Int} (hb : 0 < bot) (ht : 0 ≤ top) (x : Pr) (h0 : 0 ≤ x.2) (hl : 0 ≤ lim x) : free false top bot (wt bot x) = decide (x.2 * top > lim x) := by
  obtain ⟨c, u⟩ := x
  have h0 : 0 ≤ u := h0
  unfold free wt
  show (decide (0 < u * bot) && !decide (top * (u * bot) ≤ c.getD 0 * bot)) = decide (u * top > c.getD 0)
  have hl : 0 ≤ c.getD 0 := hl
  have e : top * (u * bot) = u * top * bot := by rw [← Int.mul_assoc, Int.mul_comm top u]
  rw [e]
  by_cases h : u * top ≤ c.getD 0
  · rw [decide_eq_true (Int.mul_le_mul_of_nonneg_right h (Int.le_of_lt hb)), decide_eq_false (show ¬ u * top > c.getD 0 by omega)]
    simp
  · have hu : 0 < u := by
      rcases Int.lt_or_le 0 u with z | z
      · exact z
      · exfalso
        have : u = 0 := by omega
        rw [this, Int.zero_mul] at h
        omega
    rw [decide_eq_false (fun z => h (Int.le_of_mul_le_mul_right z hb)), decide_eq_true (Int.mul_pos hu hb), decide_eq_true (by omega)]
    rfl
theorem known_flo {t b : Nat} {ps : List Pr} (hb : 0 < b) (hg : Nat.gcd t b = 1) (g : Good ps) {lv : Option (Int × Int)} {parts : List Int} (h : Levelled (ps.map (fndF (t : Int))).sum (ps.map (wt (b : Int))) lv parts) :
    parts = ps.map (fndF (t : Int)) ∧ lv = if ps.any (fun x => decide (x.2 * (t : Int) > lim x)) = true then some ((t : Int), (b : Int)) else none := by
  have hb' : (0 : Int) < (b : Int) := by omega
  have ht' : (0 : Int) ≤ (t : Int) := by omega
  cases hA : ps.any (fun x => decide (x.2 * (t : Int) > lim x)) with
  | true =>
    rw [List.any_eq_true] at hA
    obtain ⟨x, hx, ax⟩ := hA
    have V1 : Val false (ps.map (fndF (t : Int))).sum (ps.map (wt (b : Int))) (t : Int) (b : Int) := by
      refine ⟨hb', by omega, ?_, wt (b : Int) x, List.mem_map.mpr ⟨x, hx, rfl⟩, ?_⟩
      · rw [List.map_map, ← sum_mulr]
        congr 1
        refine List.map_congr_left fun y hy => ?_
        show val false (t : Int) (b : Int) (wt (b : Int) y) = fndF (t : Int) y * (b : Int)
        unfold val fndF
        rw [free_wtF hb' ht' y (g.w0 y hy) (g.l0 y hy)]
        by_cases e : y.2 * (t : Int) > lim y
        · rw [if_pos (decide_eq_true e), if_pos e]
          show (t : Int) * (y.2 * (b : Int)) = _
          rw [← Int.mul_assoc, Int.mul_comm (t : Int)]
        · rw [if_neg (by rw [decide_eq_false e]; decide), if_neg e]
          rfl
      · rw [free_wtF hb' ht' x (g.w0 x hx) (g.l0 x hx)]
        exact ax
    rcases h with ⟨hc, _⟩ | ⟨_, room, W, fx, rfl, rfl⟩
    · exfalso
      rcases hc with hc | hc
      · obtain ⟨y, hy, fy⟩ := V1.fr
        have := sumW_pos (ls := ps.map (wt (b : Int))) (fun z hz => by
          obtain ⟨v, hv, rfl⟩ := List.mem_map.mp hz
          exact Int.mul_nonneg (g.w0 v hv) (Int.le_of_lt hb')) ⟨y, hy, (free_iff.mp fy).1⟩
        omega
      · have := V1.under
        omega
    · have e := fx.val.unique V1
      refine ⟨?_, by rw [if_pos rfl, low_of e hg hb fx.w0 fx.r0]⟩
      have := runP_exact fx.w0 e (free false room W) (ps.map (wt (b : Int))) 0 (fun y hy => by
        obtain ⟨z, _, rfl⟩ := List.mem_map.mp hy
        exact ⟨z.2, rfl⟩) hb'
      rw [Int.zero_mul] at this
      rw [this, List.map_map]
      refine List.map_congr_left fun y hy => ?_
      show (if free false room W (wt (b : Int) y) = true then (t : Int) * (y.2 * (b : Int) / (b : Int)) else lim y) = fndF (t : Int) y
      rw [free_same fx.w0 hb' e, free_wtF hb' ht' y (g.w0 y hy) (g.l0 y hy), Int.mul_ediv_cancel _ (by omega)]
      unfold fndF
      by_cases e : y.2 * (t : Int) > lim y
      · rw [if_pos (decide_eq_true e), if_pos e, Int.mul_comm]
      · rw [if_neg (by rw [decide_eq_false e]; decide), if_neg e]
  | false =>
    rw [List.any_eq_false] at hA
    have em : (ps.map (wt (b : Int))).map lim = ps.map (fndF (t : Int)) := by
      rw [List.map_map]
      refine List.map_congr_left fun y hy => ?_
      show lim y = fndF (t : Int) y
      unfold fndF
      rw [if_neg]
      intro z
      exact hA y hy (decide_eq_true z)
    rcases h with ⟨_, rfl, rfl⟩ | ⟨hn, _⟩
    · exact ⟨em, by rw [if_neg (by decide)]⟩
    · exfalso
      apply hn
      right
      unfold sumL
      rw [em]
      exact Int.le_refl _

/-! ### the level at other numbers -/
theorem Val.scale {cap : Bool} {total : Int} {ls : List Pr} {r w t b : Int} (h : Val cap total ls r w) (hb : 0 < b) (ht : 0 ≤ t) (e : r * b = t * w) : Val cap total ls t b := by
  have hw := h.b0
  have hs := free_same (cap := cap) hw hb e
  refine ⟨hb, ht, ?_, ?_⟩
  · have h1 : (ls.map fun x => val cap t b x * w).sum = (ls.map fun x => val cap r w x * b).sum := by
      congr 1
      refine List.map_congr_left fun x _ => ?_
      unfold val
      rw [hs x]
      split
      · rw [Int.mul_assoc, Int.mul_comm x.2, ← Int.mul_assoc, ← e, Int.mul_assoc, Int.mul_comm b, ← Int.mul_assoc]
      · rw [Int.mul_assoc, Int.mul_comm b, ← Int.mul_assoc]
    rw [sum_mulr, sum_mulr, h.sum] at h1
    have h2 : total * w * b = total * b * w := by rw [Int.mul_assoc, Int.mul_comm w, ← Int.mul_assoc]
    rw [h2] at h1
    exact Int.eq_of_mul_eq_mul_right (by omega) h1
  · obtain ⟨x, hx, fx⟩ := h.fr
    exact ⟨x, hx, by rw [← hs x]; exact fx⟩
theorem lims_id {ls : List Pr} (h : ∀ x ∈ ls, 0 < x.2) : lims ls = ls := by
  unfold lims
  conv => rhs; rw [← List.map_id ls]
  refine List.map_congr_left fun x hx => ?_
  unfold lims1
  rw [if_pos (h x hx)]
  rfl
theorem wt_one (ls : List Pr) : ls.map (wt ((1 : Nat) : Int)) = ls := by
  conv => rhs; rw [← List.map_id ls]
  refine List.map_congr_left fun x _ => ?_
  show (x.1, x.2 * 1) = x
  rw [Int.mul_one]
theorem mul_bd {a b A B : Int} (h0 : 0 ≤ a) (h1 : a ≤ A) (h2 : 0 ≤ b) (h3 : b ≤ B) : 0 ≤ a * b ∧ a * b ≤ A * B :=
  ⟨Int.mul_nonneg h0 h2, Int.mul_le_mul h1 h3 h2 (Int.le_trans h0 h1)⟩
def sc (b : Int) (x : Pr) : Pr := (some (lim x * b), x.2)
theorem sc_above {t b : Int} {x : Pr} (hk : x.1 ≠ none) (h0 : 0 < x.2) : above t (sc b x) = free true t b x := by
  obtain ⟨c, w⟩ := x
  cases c with
  | none => exact absurd rfl hk
  | some c =>
    show (decide (0 < w) && decide (w * t < c * b)) = (decide (0 < w) && !decide (c * b ≤ t * w))
    rw [Int.mul_comm w t]
    congr 1
    by_cases h : c * b ≤ t * w
    · rw [decide_eq_true h, decide_eq_false (by omega)]
      rfl
    · rw [decide_eq_false h, decide_eq_true (by omega)]
      rfl
theorem sc_fnd {t b : Int} {x : Pr} (hk : x.1 ≠ none) (h0 : 0 < x.2) : fnd t (sc b x) = val true t b x := by
  unfold val
  rw [← sc_above hk h0]
  show (if x.2 * t < lim x * b then x.2 * t else lim x * b) = if (decide (0 < x.2) && decide (x.2 * t < lim x * b)) = true then t * x.2 else lim x * b
  rw [decide_eq_true h0, Bool.true_and]
  by_cases h : x.2 * t < lim x * b
  · rw [if_pos h, if_pos (decide_eq_true h), Int.mul_comm]
  · rw [if_neg h, if_neg (by rw [decide_eq_false h]; decide)]
theorem sc_sum {total : Int} {ls : List Pr} {t b : Int} (h : Val true total ls t b) (hk : ∀ x ∈ ls, x.1 ≠ none ∧ 0 < x.2) : ((ls.map (sc b)).map (fnd t)).sum = total * b := by
  rw [← h.sum, List.map_map]
  congr 1
  exact List.map_congr_left fun x hx => sc_fnd (hk x hx).1 (hk x hx).2
theorem sc_both {t b : Int} (x : Pr) : fndF t (sc b x) + fnd t (sc b x) = lim x * b + t * x.2 := by
  show (if x.2 * t > lim x * b then x.2 * t else lim x * b) + (if x.2 * t < lim x * b then x.2 * t else lim x * b) = _
  rw [Int.mul_comm t]
  split <;> split <;> omega
theorem sum_add (f g : Pr → Int) : ∀ ls : List Pr, (ls.map fun x => f x + g x).sum = (ls.map f).sum + (ls.map g).sum
  | [] => rfl
  | x :: r => by
    rw [List.map_cons, List.map_cons, List.map_cons, List.sum_cons, List.sum_cons, List.sum_cons, sum_add f g r]
    omega
theorem sc_rest {total : Int} {ls : List Pr} {t b : Int} (h : Val true total ls t b) (hk : ∀ x ∈ ls, x.1 ≠ none ∧ 0 < x.2) : ((ls.map (sc b)).map (fndF t)).sum = (ls.map fun x => lim x * b).sum + (ls.map fun x => t * x.2).sum - total * b := by
  have h1 := sc_sum h hk
  have h2 : (ls.map fun x => fndF t (sc b x) + fnd t (sc b x)).sum = (ls.map fun x => lim x * b + t * x.2).sum := by
    congr 1
    exact List.map_congr_left fun x _ => sc_both x
  rw [sum_add, sum_add] at h2
  rw [List.map_map] at h1 ⊢
  have h3 : ((ls.map (fnd t ∘ sc b)).sum) = (ls.map fun x => fnd t (sc b x)).sum := rfl
  have h4 : ((ls.map (fndF t ∘ sc b)).sum) = (ls.map fun x => fndF t (sc b x)).sum := rfl
  omega
theorem low_le {room W : Int} {t b : Nat} (h : low room W = ((t : Int), (b : Int))) (hr : 0 ≤ room) (hw : 0 < W) : (t : Int) ≤ room ∧ (b : Int) ≤ W := by
  unfold low at h
  have h1 := congrArg Prod.fst h
  have h2 := congrArg Prod.snd h
  simp only at h1 h2
  have a1 := Nat.div_le_self room.toNat (Nat.gcd room.toNat W.toNat)
  have a2 := Nat.div_le_self W.toNat (Nat.gcd room.toNat W.toNat)
  omega

/-! ### parts by a level in lowest terms -/
theorem div_same {room W t b : Int} (hw : 0 < W) (hb : 0 < b) (e : room * b = t * W) (c : Int) : room * c / W = t * c / b := by
  rw [← Int.mul_ediv_mul_of_pos_left (room * c) W hb, ← Int.mul_ediv_mul_of_pos_left (t * c) b hw]
  have h1 : room * c * b = t * c * W := by
    rw [Int.mul_assoc, Int.mul_comm c, ← Int.mul_assoc, e, Int.mul_assoc, Int.mul_comm W, ← Int.mul_assoc]
  rw [h1, Int.mul_comm W b]
theorem runP_same {room W t b : Int} (hw : 0 < W) (hb : 0 < b) (e : room * b = t * W) (f g : Pr → Bool) : ∀ (ls : List Pr) (cum : Int), (∀ x, f x = g x) → runP room W f cum ls = runP t b g cum ls
  | [], _, _ => rfl
  | x :: r, cum, h => by
    unfold runP
    rw [h x, div_same hw hb e, div_same hw hb e, runP_same hw hb e f g r _ h, runP_same hw hb e f g r _ h]
theorem runP_len (t b : Int) (f : Pr → Bool) : ∀ (ls : List Pr) (cum : Int), (runP t b f cum ls).length = ls.length
  | [], _ => rfl
  | x :: r, cum => by
    unfold runP
    split
    · rw [List.length_cons, List.length_cons, runP_len t b f r]
    · rw [List.length_cons, List.length_cons, runP_len t b f r]
theorem runP_at (t b : Int) (f : Pr → Bool) : ∀ (ls : List Pr) (cum : Int) (i : Nat) (x : Pr), ls[i]? = some x → (runP t b f cum ls)[i]? = some (if f x = true then t * (cum + sumW ((ls.take i).filter f) + x.2) / b - t * (cum + sumW ((ls.take i).filter f)) / b else lim x)
  | [], _, _, _, h => by simp at h
  | y :: r, cum, 0, x, h => by
    cases h
    unfold runP
    have z : sumW [] = 0 := rfl
    cases hf : f y with
    | true => simp [hf, z]
    | false => simp [hf]
  | y :: r, cum, i + 1, x, h => by
    rw [List.getElem?_cons_succ] at h
    unfold runP
    cases hf : f y with
    | true =>
      rw [if_pos rfl, List.getElem?_cons_succ, runP_at t b f r _ i x h, List.take_succ_cons, List.filter_cons_of_pos hf]
      have : sumW (y :: (r.take i).filter f) = y.2 + sumW ((r.take i).filter f) := rfl
      rw [this, ← Int.add_assoc]
    | false =>
      rw [if_neg (by decide), List.getElem?_cons_succ, runP_at t b f r _ i x h, List.take_succ_cons, List.filter_cons_of_neg (by rw [hf]; decide)]
theorem sumW_take {ls : List Pr} {f : Pr → Bool} {i : Nat} {x : Pr} (h : ls[i]? = some x) : sumW ((ls.take (i + 1)).filter f) = sumW ((ls.take i).filter f) + (if f x = true then x.2 else 0) := by
  rw [List.take_add_one, h, List.filter_append]
  unfold sumW
  rw [List.map_append, List.sum_append]
  cases hf : f x <;> simp [List.filter_cons, hf]
theorem runP_sum (t b : Int) (f : Pr → Bool) : ∀ (ls : List Pr) (cum : Int), (runP t b f cum ls).sum = t * (cum + sumW (ls.filter f)) / b - t * cum / b + sumL (ls.filter fun x => !f x)
  | [], cum => by
    show (0 : Int) = t * (cum + 0) / b - t * cum / b + 0
    simp
  | x :: r, cum => by
    unfold runP
    cases hf : f x with
    | true =>
      rw [if_pos rfl, List.sum_cons, runP_sum t b f r, List.filter_cons_of_pos hf, List.filter_cons_of_neg (by rw [hf]; decide)]
      have h1 : sumW (x :: r.filter f) = x.2 + sumW (r.filter f) := rfl
      have h2 : cum + (x.2 + sumW (r.filter f)) = cum + x.2 + sumW (r.filter f) := by omega
      rw [h1, h2]
      omega
    | false =>
      rw [if_neg (by decide), List.sum_cons, runP_sum t b f r, List.filter_cons_of_neg (by rw [hf]; decide), List.filter_cons_of_pos (by rw [hf]; rfl)]
      have : sumL (x :: r.filter fun x => !f x) = lim x + sumL (r.filter fun x => !f x) := rfl
      rw [this]
      omega
theorem Fix.sum {cap : Bool} {total : Int} {ls : List Pr} {room W : Int} (h : Fix cap total ls room W) : (runP room W (free cap room W) 0 ls).sum = total := by
  rw [runP_sum, ← h.eW, Int.zero_add, Int.mul_zero, Int.zero_ediv, Int.mul_ediv_cancel _ (by have := h.w0; omega)]
  have e := h.eR
  generalize sumL (ls.filter fun x => !free cap room W x) = z at e ⊢
  omega
theorem part_ge {t b c w l : Int} (hb : 0 < b) (h : l * b ≤ t * w) : l ≤ t * (c + w) / b - t * c / b := by
  have h1 : (t * c + l * b) / b ≤ t * (c + w) / b := Int.ediv_le_ediv hb (by rw [Int.mul_add]; omega)
  rw [Int.add_mul_ediv_right _ _ (by omega)] at h1
  omega
theorem val_max {t b : Int} {x : Pr} (hb : 0 < b) (h0 : 0 ≤ x.2) (hl : 0 ≤ lim x) : val false t b x = if t * x.2 > lim x * b then t * x.2 else lim x * b := by
  unfold val free
  by_cases h : t * x.2 ≤ lim x * b
  · rw [bnd_flo_of h, if_neg (by simp), if_neg (by omega)]
  · have hb2 : bnd false x t b = false := by
      cases e : bnd false x t b with
      | false => rfl
      | true => exact absurd (bnd_flo e) h
    have hx : 0 < x.2 := by
      rcases Int.lt_or_le 0 x.2 with z | z
      · exact z
      · exfalso
        have : x.2 = 0 := by omega
        rw [this, Int.mul_zero] at h
        exact h (Int.mul_nonneg hl (Int.le_of_lt hb))
    rw [hb2, decide_eq_true hx, if_pos (show (true && !false) = true from rfl), if_pos (by omega)]
theorem free_flo {t b : Int} {x : Pr} : free false t b x = (decide (0 < x.2) && decide (lim x * b < t * x.2)) := by
  unfold free
  congr 1
  show (!decide (t * x.2 ≤ lim x * b)) = _
  by_cases h : t * x.2 ≤ lim x * b
  · rw [decide_eq_true h, decide_eq_false (by omega)]
    rfl
  · rw [decide_eq_false h, decide_eq_true (by omega)]
    rfl

/-! ### lists of numbers as data -/
def datI (ns : List Int) : PyData := .list (ns.map PyData.int)
theorem dpI_all {K : PySem.W.Frag} {H : Hp} : ∀ ns : List Int, DpAll K H (ns.map V.int) (ns.map PyData.int)
  | [] => .nil
  | n :: r => .cons (.int n) (dpI_all r)
theorem dp_ints {K : PySem.W.Frag} {H : Hp} {a : Addr} {ns : List Int} (h : SqL K H a (ns.map V.int)) : Dp K H (.ref a) (datI ns) := .lst h (dpI_all ns)
theorem can_ints : ∀ ns : List Int, PyData.canLayAll0 (ns.map PyData.int) = true
  | [] => rfl
  | n :: r => by
    show (true && PyData.canLayAll0 (r.map PyData.int)) = true
    rw [can_ints r]
    rfl
theorem depth_ints : ∀ ns : List Int, PyData.depthAll (ns.map PyData.int) = 0
  | [] => rfl
  | n :: r => by
    show max 0 (PyData.depthAll (r.map PyData.int)) = 0
    rw [depth_ints r]
    rfl
theorem shaped_ints (ns : List Int) : SeqAt.shaped (datI ns) = true := by
  unfold SeqAt.shaped datI
  rw [Bool.and_eq_true]
  refine ⟨can_ints ns, ?_⟩
  show decide (PyData.depthAll (ns.map PyData.int) + 1 ≤ 64) = true
  rw [depth_ints]
  rfl
theorem eqv_datI : ∀ ns ms : List Int, PyData.eqv (datI ns) (datI ms) = decide (ns = ms) := by
  have key : ∀ ns ms : List Int, PyData.eqvAll (ns.map PyData.int) (ms.map PyData.int) = decide (ns = ms) := by
    intro ns
    induction ns with
    | nil =>
      intro ms
      cases ms with
      | nil => rfl
      | cons m r => simp [PyData.eqvAll]
    | cons n r ih =>
      intro ms
      cases ms with
      | nil => simp [PyData.eqvAll]
      | cons m q =>
        show (PyData.eqv (.int n) (.int m) && PyData.eqvAll (r.map PyData.int) (q.map PyData.int)) = _
        rw [ih q]
        show ((n == m) && decide (r = q)) = _
        by_cases h1 : n = m
        · by_cases h2 : r = q
          · simp [h1, h2]
          · simp [h1, h2]
        · simp [h1]
  intro ns ms
  exact key ns ms

/-! ### draws -/
theorem pick {ns : List Int} {r : Int} (h0 : 0 ≤ r) (h1 : r < (ns.length : Int)) (Pm : Int → Prop) (h : ∀ n ∈ ns, Pm n) : ∃ m : Int, atI (ns.map V.int) r = some (.int m) ∧ Pm m := by
  obtain ⟨v, hv, ha⟩ := atI_mem (xs := ns.map V.int) (i := r) h0 (by rw [List.length_map]; exact h1)
  obtain ⟨m, hm, rfl⟩ := List.mem_map.mp hv
  exact ⟨m, ha, h m hm⟩
theorem Off.same {p : Addr} {H H' : Hp} (s : Same H H') : Off p H H' := .of s
theorem Off.back {p D : Addr} {H H' : Hp} (o : Off p H H') (n : H' D = none) (h : D ≠ p) : H D = none := by
  cases e : H D with
  | none => rfl
  | some x =>
    rw [o _ _ e h] at n
    cases n
theorem lcD {β : Type} {J : It} {n : Nat} {G : Hp → Prop} {Y : Nat → Hp → V → Hp → Prop} (w : Walk J n G Y) {te : TE} {vs : List Nat} {σ : L2.St} {H1 : Hp} {D p : Addr} {j : Nat} {Qd : Hp → Prop} (e2 : β → V) (Yv : Nat → V → Prop) (hY : ∀ i H x H', Y i H x H' → H' = H ∧ Yv i x) (R : Nat → β → Prop)
    (hS : Src H1 p) (nD : H1 D = none) (hz : n ≤ 40000) (hG : ∀ H, Off p H1 H → G H)
    (hs : ∀ i x H (A : V → Hp → Prop), i < n → Yv i x → Src H p → Off p H1 H → (∀ z H', R i z → Src H' p → Off p H H' → A (e2 z) H') → wipe ((wipe σ vs).set j (some x)) vs = wipe σ vs ∧ te ((wipe σ vs).set j (some x)) H A)
    (hd : ∀ H (zs : List β), D ≠ p → zs.length = n → (∀ i z, zs[i]? = some z → R i z) → H D = some (.lst (zs.map e2)) → Src H p → Off p H1 H → Qd H) :
    ∃ W : Nat → Nat → Hp → Prop, (∃ m, W 0 m (upd H1 D (.lst []))) ∧ ∀ i m H, W i m H →
      (J.stop i H ∧ Qd H) ∨ (J.go i H ∧ ∃ Nx : Hp → Prop, (∀ H', Nx H' → ∃ m', m' < m ∧ W (i + 1) m' H') ∧ ∀ x H', J.yld i H x H' → gName j x (wipe σ vs) H' fun σ2 H2 => wipe σ2 vs = wipe σ vs ∧ tYes σ2 H2 fun b H3 =>
        if b = true then te σ2 H3 fun y H4 => ∃ acc, H4 D = some (.lst acc) ∧ acc.length < sizeLine ∧ Nx (upd H4 D (.lst (acc ++ [y]))) else Nx H3) := by
  have hDp := hS.ne_new nD
  refine lc_it w (fun i H => ∃ zs : List β, zs.length = i ∧ (∀ i z, zs[i]? = some z → R i z) ∧ H D = some (.lst (zs.map e2)) ∧ Src H p ∧ Off p H1 H) ⟨[], rfl, fun i z h => by simp at h, upd_same, hS.keep nD, off_new nD⟩ (fun i H _ h => by obtain ⟨_, _, _, _, _, o⟩ := h; exact hG H o) ?_ ?_
  · rintro i x H H' hi ⟨zs, hl, hR, eD, sH, o⟩ hy
    obtain ⟨rfl, yv⟩ := hY i H x H' hy
    obtain ⟨h1, h2⟩ := hs i x H' (fun y H4 => ∃ acc, H4 D = some (.lst acc) ∧ acc.length < sizeLine ∧ ∃ zs : List β, zs.length = i + 1 ∧ (∀ i z, zs[i]? = some z → R i z) ∧ (upd H4 D (.lst (acc ++ [y]))) D = some (.lst (zs.map e2)) ∧ Src (upd H4 D (.lst (acc ++ [y]))) p ∧ Off p H1 (upd H4 D (.lst (acc ++ [y])))) hi yv sH o (fun z H4 rz s4 o4 => by
      refine ⟨_, o4 _ _ eD hDp, ?_, zs ++ [z], ?_, ?_, ?_, ?_, ?_⟩
      · rw [List.length_map, hl]
        exact big (by omega)
      · rw [List.length_append, hl]
        rfl
      · intro k y hk
        rcases Nat.lt_or_ge k zs.length with hlt | hge
        · rw [List.getElem?_append_left hlt] at hk
          exact hR k y hk
        · rw [List.getElem?_append_right hge] at hk
          have hk0 : k - zs.length = 0 := by
            have := (List.getElem?_eq_some_iff.mp hk).1
            simp at this
            omega
          rw [hk0] at hk
          cases hk
          have : k = i := by omega
          rw [this]
          exact rz
      · rw [upd_same, List.map_append]
        rfl
      · obtain ⟨a, b, c, e⟩ := s4
        exact ⟨a, b, c, by rw [upd_ne hDp.symm]; exact e⟩
      · intro b x hb hne
        rw [upd_ne (ne_of_none hb nD)]
        exact o4 _ _ (o _ _ hb hne) hne)
    exact ⟨h1, yes_if h2⟩
  · rintro H ⟨zs, hl, hR, eD, sH, o⟩
    exact hd H zs hDp hl hR eD sH o
/-! ### levels and lists as data -/
def dLv : Option (Int × Int) → PyData
  | none => .none
  | some (a, b) => .tuple [.int a, .int b]
def datT (lv : Option (Int × Int)) (ps : List Int) : PyData := .tuple [dLv lv, datI ps]
theorem dp_lv {K : PySem.W.Frag} {H : Hp} {v : V} {lv : Option (Int × Int)} (h : LvAt H v lv) : Dp K H v (dLv lv) := by
  cases lv with
  | none =>
    rw [show v = .non from h]
    exact .non
  | some ab =>
    obtain ⟨a, b⟩ := ab
    obtain ⟨q, rfl, e⟩ := h
    exact .tup (.of e) (.cons (.int a) (.cons (.int b) .nil))
theorem dp_T {K : PySem.W.Frag} {H : Hp} {t p : Addr} {lvv : V} {lv : Option (Int × Int)} {ps : List Int} (et : H t = some (.tup [lvv, .ref p])) (h : LvAt H lvv lv) (ep : H p = some (.lst (ps.map V.int))) : Dp K H (.ref t) (datT lv ps) :=
  .tup (.of et) (.cons (dp_lv h) (.cons (dp_ints (.of ep)) .nil))
theorem shaped_T (lv : Option (Int × Int)) (ps : List Int) : SeqAt.shaped (datT lv ps) = true := by
  unfold SeqAt.shaped datT
  rw [Bool.and_eq_true]
  constructor
  · show (PyData.canLay0 (dLv lv) && (PyData.canLay0 (datI ps) && true)) = true
    have h1 : PyData.canLay0 (dLv lv) = true := by
      cases lv with
      | none => rfl
      | some ab => rfl
    have h2 : PyData.canLay0 (datI ps) = true := can_ints ps
    rw [h1, h2]
    rfl
  · have h2 : PyData.depth (datI ps) = 1 := by
      show PyData.depthAll (ps.map PyData.int) + 1 = 1
      rw [depth_ints]
    cases lv with
    | none =>
      show decide (max 0 (max (PyData.depth (datI ps)) 0) + 1 ≤ 64) = true
      rw [h2]
      rfl
    | some ab =>
      show decide (max 1 (max (PyData.depth (datI ps)) 0) + 1 ≤ 64) = true
      rw [h2]
      rfl
theorem eqv_T (lv lv' : Option (Int × Int)) (ps ps' : List Int) : PyData.eqv (datT lv ps) (datT lv' ps') = decide (lv = lv' ∧ ps = ps') := by
  have h1 : PyData.eqv (dLv lv) (dLv lv') = decide (lv = lv') := by
    cases lv with
    | none =>
      cases lv' with
      | none => rfl
      | some ab => rfl
    | some ab =>
      cases lv' with
      | none => rfl
      | some cd =>
        obtain ⟨a, b⟩ := ab
        obtain ⟨c, d⟩ := cd
        show ((a == c) && ((b == d) && true)) = _
        by_cases e1 : a = c
        · by_cases e2 : b = d
          · simp [e1, e2]
          · simp [e1, e2]
        · simp [e1]
  show (PyData.eqv (dLv lv) (dLv lv') && (PyData.eqv (datI ps) (datI ps') && true)) = _
  rw [h1, eqv_datI]
  by_cases e1 : lv = lv'
  · by_cases e2 : ps = ps'
    · simp [e1, e2]
    · simp [e1, e2]
  · simp [e1]
theorem lvSame {H H' : Hp} {v : V} {lv : Option (Int × Int)} (s : Same H H') (h : LvAt H v lv) : LvAt H' v lv := by
  cases lv with
  | none => exact h
  | some ab =>
    obtain ⟨q, e, g⟩ := h
    exact ⟨q, e, s _ _ g⟩
/-- caps as data -/
def datO (os : List (Option Int)) : PyData := .list (os.map fun o => match o with | none => .none | some c => .int c)
theorem dpO_all {K : PySem.W.Frag} {H : Hp} : ∀ os : List (Option Int), DpAll K H (os.map ov) (os.map fun o => match o with | none => .none | some c => .int c)
  | [] => .nil
  | none :: r => .cons .non (dpO_all r)
  | some c :: r => .cons (.int c) (dpO_all r)
theorem dp_O {K : PySem.W.Frag} {H : Hp} {a : Addr} {os : List (Option Int)} (h : H a = some (.lst (os.map ov))) : Dp K H (.ref a) (datO os) := .lst (.of h) (dpO_all os)
theorem can_O : ∀ os : List (Option Int), PyData.canLayAll0 (os.map fun o => match o with | none => PyData.none | some c => .int c) = true
  | [] => rfl
  | none :: r => by
    show (true && _) = true
    rw [Bool.true_and]
    exact can_O r
  | some c :: r => by
    show (true && _) = true
    rw [Bool.true_and]
    exact can_O r
theorem depth_O : ∀ os : List (Option Int), PyData.depthAll (os.map fun o => match o with | none => PyData.none | some c => .int c) = 0
  | [] => rfl
  | none :: r => by
    show max 0 _ = 0
    rw [depth_O r]
    rfl
  | some c :: r => by
    show max 0 _ = 0
    rw [depth_O r]
    rfl
theorem shaped_O (os : List (Option Int)) : SeqAt.shaped (datO os) = true := by
  unfold SeqAt.shaped datO
  rw [Bool.and_eq_true]
  refine ⟨can_O os, ?_⟩
  show decide (PyData.depthAll _ + 1 ≤ 64) = true
  rw [depth_O]
  rfl
theorem eqv_O_nil (os : List (Option Int)) : PyData.eqv (datO os) (datI []) = decide (os = []) := by
  cases os with
  | nil => rfl
  | cons o r => cases o <;> rfl

/-! ### the last of a list -/
theorem at_last {ns : List Int} (h : ns ≠ []) : ∃ m ∈ ns, atI (ns.map V.int) (-1) = some (.int m) := by
  have hl : 0 < ns.length := List.length_pos_iff.mpr h
  refine ⟨ns[ns.length - 1], List.getElem_mem _, ?_⟩
  unfold atI ixN
  rw [List.length_map, if_neg (by decide), if_pos (by omega), show (-1 + (ns.length : Int)).toNat = ns.length - 1 by omega]
  show (ns.map V.int)[ns.length - 1]? = _
  rw [List.getElem?_map, List.getElem?_eq_getElem (by omega)]
  rfl

/-! ### lists made of lists -/
theorem fm_zip_at {α β γ δ : Type} (f : α → β) (g : α → γ) (F : β → γ → Option δ) : ∀ l : List α, (((l.map f).zip (l.map g)).filterMap fun p => F p.1 p.2) = l.filterMap fun x => F (f x) (g x)
  | [] => rfl
  | x :: r => by
    rw [List.map_cons, List.map_cons, List.zip_cons_cons, List.filterMap_cons, List.filterMap_cons, fm_zip_at f g F r]
theorem fm_opt {α β : Type} (p : α → Bool) (f : α → β) : ∀ l : List α, (l.filterMap fun x => if p x = true then some (f x) else none) = (l.filter p).map f
  | [] => rfl
  | x :: r => by
    rw [List.filterMap_cons, fm_opt p f r, List.filter_cons]
    cases p x <;> rfl
theorem filter_nil_any {α : Type} (p : α → Bool) : ∀ l : List α, (l.filter p = []) ↔ l.any p = false := fun l => by
  rw [List.filter_eq_nil_iff, List.any_eq_false]
theorem rep_flat (n : Nat) (v : V) : (List.replicate n [v]).flatten = List.replicate n v := by
  induction n with
  | zero => rfl
  | succ n ih =>
    rw [List.replicate_succ, List.flatten_cons, ih]
    rfl

theorem zip_fst_map {α β γ : Type} (f : α → γ) : ∀ (as : List α) (bs : List β), as.length = bs.length → ((as.zip bs).map fun x => f x.1) = as.map f
  | [], [], _ => rfl
  | a :: r, b :: q, h => by
    rw [List.zip_cons_cons, List.map_cons, List.map_cons, zip_fst_map f r q (by simpa using h)]
theorem zip_snd_map {α β γ : Type} (f : β → γ) : ∀ (as : List α) (bs : List β), as.length = bs.length → ((as.zip bs).map fun x => f x.2) = bs.map f
  | [], [], _ => rfl
  | a :: r, b :: q, h => by
    rw [List.zip_cons_cons, List.map_cons, List.map_cons, zip_snd_map f r q (by simpa using h)]

/-! ### parts of lists -/
theorem cut_to {α : Type} (f : α → V) (l : List α) (k : Nat) : cutV (l.map f) none (some (k : Int)) = (l.take k).map f := by
  unfold cutV
  rw [HT.sIx_none, show HT.sIx (l.map f).length (l.map f).length (some (k : Int)) = min k (l.map f).length from HT.sIx_nat _ _ k, List.drop_zero, Nat.sub_zero, ← List.map_take, List.length_map]
  congr 1
  rcases Nat.le_total k l.length with h | h
  · rw [Nat.min_eq_left h]
  · rw [Nat.min_eq_right h, List.take_length, List.take_of_length_le h]
theorem cut_from {α : Type} (f : α → V) (l : List α) (k : Nat) : cutV (l.map f) (some (k : Int)) none = (l.drop k).map f := by
  unfold cutV
  rw [HT.sIx_none, show HT.sIx (l.map f).length 0 (some (k : Int)) = min k (l.map f).length from HT.sIx_nat _ _ k, ← List.map_drop, ← List.map_take, List.length_map]
  congr 1
  rcases Nat.le_total k l.length with h | h
  · rw [Nat.min_eq_left h]
    exact List.take_of_length_le (by rw [List.length_drop]; exact Nat.le_refl _)
  · rw [Nat.min_eq_right h, List.drop_length, List.drop_eq_nil_of_le h]
    simp

/-! ### dealt and levelled at once; totals that rise -/
def lsOf : Bool → List Pr → List Pr
  | true, ps => lims ps
  | false, ps => ps
def noLev : Bool → Int → List Pr → Prop
  | true, total, ps => allCapped total ps
  | false, total, ps => sumW ps = 0 ∨ total ≤ sumL ps
def Res (c : Bool) (total : Int) (ps : List Pr) (lv : Option (Int × Int)) (parts : List Int) : Prop :=
  (noLev c total ps ∧ lv = none ∧ parts = (lsOf c ps).map lim) ∨ (¬ noLev c total ps ∧ ∃ room W, Fix c total (lsOf c ps) room W ∧ lv = some (low room W) ∧ parts = runP room W (free c room W) 0 (lsOf c ps))
theorem Fix.unique {cap : Bool} {total : Int} {ls : List Pr} {r1 w1 r2 w2 : Int} (h1 : Fix cap total ls r1 w1) (h2 : Fix cap total ls r2 w2) : r1 = r2 ∧ w1 = w2 := by
  have e := h1.val.unique h2.val
  have ef : ∀ x, free cap r1 w1 x = free cap r2 w2 x := free_same h1.w0 h2.w0 e
  have a1 := h1.eW
  have a2 := h2.eW
  have b1 := h1.eR
  have b2 := h2.eR
  rw [List.filter_congr (fun x _ => ef x), ← a2] at a1
  rw [List.filter_congr (fun x _ => by rw [ef x] : ∀ x ∈ ls, (!free cap r1 w1 x) = (!free cap r2 w2 x)), ← b2] at b1
  exact ⟨b1, a1⟩
theorem Res.unique {c : Bool} {total : Int} {ps : List Pr} {lv lv' : Option (Int × Int)} {parts parts' : List Int} (h1 : Res c total ps lv parts) (h2 : Res c total ps lv' parts') : lv = lv' ∧ parts = parts' := by
  rcases h1 with ⟨a1, rfl, rfl⟩ | ⟨a1, r1, w1, f1, rfl, rfl⟩
  · rcases h2 with ⟨a2, rfl, rfl⟩ | ⟨a2, _⟩
    · exact ⟨rfl, rfl⟩
    · exact absurd a1 a2
  · rcases h2 with ⟨a2, rfl, rfl⟩ | ⟨a2, r2, w2, f2, rfl, rfl⟩
    · exact absurd a2 a1
    · obtain ⟨rfl, rfl⟩ := f1.unique f2
      exact ⟨rfl, rfl⟩
theorem val_le {cap : Bool} {r1 w1 r2 w2 : Int} (p1 : 0 < w1) (p2 : 0 < w2) (hlt : r1 * w2 ≤ r2 * w1) (x : Pr) : val cap r1 w1 x * w2 ≤ val cap r2 w2 x * w1 := by
  have c1 : r1 * x.2 * w2 = r1 * w2 * x.2 := by rw [Int.mul_assoc, Int.mul_comm x.2, ← Int.mul_assoc]
  have c2 : r2 * x.2 * w1 = r2 * w1 * x.2 := by rw [Int.mul_assoc, Int.mul_comm x.2, ← Int.mul_assoc]
  have c3 : lim x * w1 * w2 = lim x * w2 * w1 := by rw [Int.mul_assoc, Int.mul_comm w1, ← Int.mul_assoc]
  unfold val
  cases e1 : free cap r1 w1 x with
  | true =>
    obtain ⟨x0, b1⟩ := free_iff.mp e1
    have g1 : r1 * w2 * x.2 ≤ r2 * w1 * x.2 := Int.mul_le_mul_of_nonneg_right hlt (Int.le_of_lt x0)
    cases e2 : free cap r2 w2 x with
    | true =>
      simp only [if_true]
      rw [c1, c2]
      exact g1
    | false =>
      have b2 := not_free_bnd x0 e2
      simp only [if_true, Bool.false_eq_true, if_false]
      cases cap with
      | true =>
        have hk := bnd_cap b2
        have g3 := Int.mul_lt_mul_of_pos_right (not_bnd_cap b1 hk.1) p2
        rw [c3] at g3
        omega
      | false =>
        have g3 := Int.mul_le_mul_of_nonneg_right (bnd_flo b2) (Int.le_of_lt p1)
        rw [c2] at g3
        rw [c1]
        omega
  | false =>
    cases e2 : free cap r2 w2 x with
    | true =>
      obtain ⟨x0, b2⟩ := free_iff.mp e2
      have g1 : r1 * w2 * x.2 ≤ r2 * w1 * x.2 := Int.mul_le_mul_of_nonneg_right hlt (Int.le_of_lt x0)
      have b1 := not_free_bnd x0 e1
      simp only [if_true, Bool.false_eq_true, if_false]
      cases cap with
      | true =>
        have g3 := Int.mul_le_mul_of_nonneg_right (bnd_cap b1).2 (Int.le_of_lt p2)
        rw [c1] at g3
        rw [c2]
        omega
      | false =>
        have g3 := Int.mul_lt_mul_of_pos_right (not_bnd_flo b2) p1
        rw [← c3] at g3
        omega
    | false =>
      simp only [Bool.false_eq_true, if_false]
      rw [c3]
      exact Int.le_refl _
theorem Val.mono {cap : Bool} {T1 T2 : Int} {ls : List Pr} {r1 w1 r2 w2 : Int} (h1 : Val cap T1 ls r1 w1) (h2 : Val cap T2 ls r2 w2) (h : T1 < T2) : r1 * w2 < r2 * w1 := by
  rcases Int.lt_or_le (r1 * w2) (r2 * w1) with z | z
  · exact z
  exfalso
  have hs := sum_le_lt (fun x => val cap r2 w2 x * w1) (fun x => val cap r1 w1 x * w2) ls (fun x _ => val_le h2.b0 h1.b0 z x)
  rw [sum_mulr, sum_mulr, h1.sum, h2.sum, Int.mul_assoc, Int.mul_assoc, Int.mul_comm w1] at hs
  have := Int.le_of_mul_le_mul_right hs (Int.mul_pos h2.b0 h1.b0)
  omega
theorem noLev_up {c : Bool} {T1 T2 : Int} {ps : List Pr} (h : T1 ≤ T2) (hn : noLev c (if c = true then T1 else T2) ps) : noLev c (if c = true then T2 else T1) ps := by
  cases c with
  | true =>
    have h1 : allCapped T1 ps := hn
    exact (⟨h1.1, Int.le_trans h1.2 h⟩ : allCapped T2 ps)
  | false =>
    have h1 : sumW ps = 0 ∨ T2 ≤ sumL ps := hn
    exact (h1.imp id fun z => Int.le_trans h z : sumW ps = 0 ∨ T1 ≤ sumL ps)
theorem lsOf_len (c : Bool) (ps : List Pr) : (lsOf c ps).length = ps.length := by
  cases c with
  | true => exact List.length_map _
  | false => rfl
theorem Res.len {c : Bool} {total : Int} {ps : List Pr} {lv : Option (Int × Int)} {parts : List Int} (h : Res c total ps lv parts) : parts.length = ps.length := by
  rcases h with ⟨_, _, rfl⟩ | ⟨_, room, W, _, _, rfl⟩
  · rw [List.length_map, lsOf_len]
  · rw [runP_len, lsOf_len]
theorem Res.sum {c : Bool} {total : Int} {ps : List Pr} {lv : Option (Int × Int)} {parts : List Int} (h : Res c total ps lv parts) (hl : lv ≠ none) : parts.sum = total := by
  rcases h with ⟨_, rfl, rfl⟩ | ⟨_, room, W, fx, _, rfl⟩
  · exact absurd rfl hl
  · exact fx.sum
theorem lsOf_at {c : Bool} {ps : List Pr} {i : Nat} {x : Pr} (h : ps[i]? = some x) : (lsOf c ps)[i]? = some (if c = true then lims1 x else x) := by
  cases c with
  | true =>
    show (ps.map lims1)[i]? = _
    rw [List.getElem?_map, h]
    rfl
  | false => exact h
theorem part_le {t b c w l : Int} (hb : 0 < b) (h : t * w ≤ l * b) : t * (c + w) / b - t * c / b ≤ l := by
  have h1 : t * (c + w) / b ≤ (t * c + l * b) / b := Int.ediv_le_ediv hb (by rw [Int.mul_add]; omega)
  rw [Int.add_mul_ediv_right _ _ (by omega)] at h1
  omega
/-- no one gets more than its cap, less than its floor -/
theorem Res.bound {c : Bool} {total : Int} {ps : List Pr} {lv : Option (Int × Int)} {parts : List Int} (g : Good ps) (h : Res c total ps lv parts) {i : Nat} {x : Pr} {b got : Int} (hx : ps[i]? = some x) (hb : x.1 = some b) (hg : parts[i]? = some got) : if c = true then got ≤ b else b ≤ got := by
  have hl := lsOf_at (c := c) hx
  have xb : lim x = b := by
    unfold lim
    rw [hb]
    rfl
  have b0 : 0 ≤ b := by
    have := g.l0 x (List.mem_of_getElem? hx)
    omega
  have l1 : lim (lims1 x) = if 0 < x.2 then b else 0 := by
    unfold lims1
    split
    · exact xb
    · rfl
  have l2 : (lims1 x).2 = x.2 := by
    unfold lims1
    split <;> rfl
  rcases h with ⟨_, _, rfl⟩ | ⟨_, room, W, fx, _, rfl⟩
  · rw [List.getElem?_map, hl] at hg
    cases hg
    cases c with
    | true =>
      show lim (lims1 x) ≤ b
      rw [l1]
      split <;> omega
    | false =>
      show b ≤ lim x
      omega
  · rw [runP_at _ _ _ _ 0 i _ hl] at hg
    cases hg
    cases c with
    | true =>
      show (if free true room W (lims1 x) = true then _ else lim (lims1 x)) ≤ b
      split
      · rename_i hf
        obtain ⟨p1, p2⟩ := free_iff.mp hf
        have hk : (lims1 x).1 ≠ none := by
          unfold lims1
          split
          · rw [hb]
            simp
          · simp
        have p3 := not_bnd_cap p2 hk
        have := part_le (c := 0 + sumW (((lsOf true ps).take i).filter (free true room W))) fx.w0 (Int.le_of_lt p3)
        refine Int.le_trans this ?_
        rw [l1]
        split <;> omega
      · rw [l1]
        split <;> omega
    | false =>
      show b ≤ (if free false room W x = true then _ else lim x)
      split
      · rename_i hf
        obtain ⟨p1, p2⟩ := free_iff.mp hf
        have p3 := not_bnd_flo p2
        have := part_ge (c := 0 + sumW (((lsOf false ps).take i).filter (free false room W))) fx.w0 (Int.le_of_lt p3)
        exact Int.le_trans (by omega) this
      · omega
def Stay (c : Bool) (ps : List Pr) (lvF : Option (Int × Int)) (pF : List Int) (lvS : Option (Int × Int)) (pS : List Int) : Prop :=
  (lvF = none → lvS = none ∧ pF = pS) ∧ ∀ t b, lvF = some (t, b) → ∀ (i : Nat) (x : Pr) (bd : Int), ps[i]? = some x → 0 < x.2 → x.1 = some bd → (if c = true then bd * b - t * x.2 ≤ 0 else 0 ≤ bd * b - t * x.2) → pS[i]? = some bd
theorem Res.stay {c : Bool} {T1 T2 : Int} {ps : List Pr} {lv1 lv2 : Option (Int × Int)} {p1 p2 : List Int} (hT : T1 < T2) (h1 : Res c (if c = true then T1 else T2) ps lv1 p1) (h2 : Res c (if c = true then T2 else T1) ps lv2 p2) : Stay c ps lv1 p1 lv2 p2 := by
  refine ⟨fun e => ?_, fun t b e i x bd hx hw hb hh => ?_⟩
  · rcases h1 with ⟨a1, _, rfl⟩ | ⟨_, r1, w1, _, rfl, _⟩
    · have a2 := noLev_up (Int.le_of_lt hT) a1
      rcases h2 with ⟨_, rfl, rfl⟩ | ⟨a3, _⟩
      · exact ⟨rfl, rfl⟩
      · exact absurd a2 a3
    · cases e
  · rcases h1 with ⟨_, rfl, _⟩ | ⟨_, r1, w1, f1, rfl, _⟩
    · cases e
    obtain ⟨t', b', e', _, b0, hrb⟩ := low_pos f1.w0 f1.r0
    rw [e'] at e
    cases e
    have hl := lsOf_at (c := c) hx
    have hy : (if c = true then lims1 x else x) = x := by
      split
      · unfold lims1
        rw [if_pos hw]
      · rfl
    rw [hy] at hl
    have xb : lim x = bd := by
      unfold lim
      rw [hb]
      rfl
    rcases h2 with ⟨_, rfl, rfl⟩ | ⟨_, r2, w2, f2, rfl, rfl⟩
    · rw [List.getElem?_map, hl, ← xb]
      rfl
    rw [runP_at _ _ _ _ 0 i _ hl]
    have bz : (0 : Int) < (b' : Int) := by omega
    have V1 := f1.val.scale bz (by omega) hrb
    have V2 := f2.val
    have w20 := f2.w0
    have nf : free c r2 w2 x = false := by
      unfold free
      have : bnd c x r2 w2 = true := by
        cases c with
        | true =>
          have m := V1.mono V2 hT
          simp only [if_true] at hh
          refine bnd_cap_of (by rw [hb]; simp) ?_
          rw [xb]
          have g1 : bd * (b' : Int) * w2 ≤ (t' : Int) * x.2 * w2 := Int.mul_le_mul_of_nonneg_right (by omega) (by omega)
          have g2 : (t' : Int) * w2 * x.2 ≤ r2 * (b' : Int) * x.2 := Int.mul_le_mul_of_nonneg_right (by omega) (by omega)
          have e1 : (t' : Int) * x.2 * w2 = (t' : Int) * w2 * x.2 := by rw [Int.mul_assoc, Int.mul_comm x.2, ← Int.mul_assoc]
          have e2 : bd * (b' : Int) * w2 = bd * w2 * (b' : Int) := by rw [Int.mul_assoc, Int.mul_comm (b' : Int), ← Int.mul_assoc]
          have e3 : r2 * (b' : Int) * x.2 = r2 * x.2 * (b' : Int) := by rw [Int.mul_assoc, Int.mul_comm (b' : Int), ← Int.mul_assoc]
          exact Int.le_of_mul_le_mul_right (by omega : bd * w2 * (b' : Int) ≤ r2 * x.2 * (b' : Int)) bz
        | false =>
          have m := V2.mono V1 hT
          simp only [Bool.false_eq_true, if_false] at hh
          refine bnd_flo_of ?_
          rw [xb]
          have g1 : (t' : Int) * x.2 * w2 ≤ bd * (b' : Int) * w2 := Int.mul_le_mul_of_nonneg_right (by omega) (by omega)
          have g2 : r2 * (b' : Int) * x.2 ≤ (t' : Int) * w2 * x.2 := Int.mul_le_mul_of_nonneg_right (by omega) (by omega)
          have e1 : (t' : Int) * x.2 * w2 = (t' : Int) * w2 * x.2 := by rw [Int.mul_assoc, Int.mul_comm x.2, ← Int.mul_assoc]
          have e2 : bd * (b' : Int) * w2 = bd * w2 * (b' : Int) := by rw [Int.mul_assoc, Int.mul_comm (b' : Int), ← Int.mul_assoc]
          have e3 : r2 * (b' : Int) * x.2 = r2 * x.2 * (b' : Int) := by rw [Int.mul_assoc, Int.mul_comm (b' : Int), ← Int.mul_assoc]
          exact Int.le_of_mul_le_mul_right (by omega : r2 * x.2 * (b' : Int) ≤ bd * w2 * (b' : Int)) bz
      rw [this]
      simp
    rw [nf, if_neg (by decide), xb]
def Rises (c : Bool) : Option (Int × Int) → Option (Int × Int) → Prop
  | none, o => c = false ∨ o = none
  | some _, none => c = true
  | some (a, b), some (a', b') => a * b' < a' * b
theorem Res.rises {c : Bool} {T1 T2 : Int} {ps : List Pr} {lv1 lv2 : Option (Int × Int)} {p1 p2 : List Int} (hT : T1 < T2) (h1 : Res c T1 ps lv1 p1) (h2 : Res c T2 ps lv2 p2) : Rises c lv1 lv2 := by
  rcases h1 with ⟨a1, rfl, _⟩ | ⟨a1, r1, w1, f1, rfl, _⟩
  · cases c with
    | false => exact .inl rfl
    | true =>
      have a2 : noLev true T2 ps := noLev_up (c := true) (T1 := T1) (T2 := T2) (Int.le_of_lt hT) a1
      rcases h2 with ⟨_, rfl, _⟩ | ⟨a3, _⟩
      · exact .inr rfl
      · exact absurd a2 a3
  · rcases h2 with ⟨a2, rfl, _⟩ | ⟨a2, r2, w2, f2, rfl, _⟩
    · cases c with
      | true => exact rfl
      | false =>
        have a3 : noLev false T1 ps := noLev_up (c := false) (T1 := T1) (T2 := T2) (Int.le_of_lt hT) a2
        exact absurd a3 a1
    · obtain ⟨t1, b1, e1, _, z1, h1⟩ := low_pos f1.w0 f1.r0
      obtain ⟨t2, b2, e2, _, z2, h2⟩ := low_pos f2.w0 f2.r0
      rw [e1, e2]
      exact (f1.val.scale (by omega) (by omega) h1).mono (f2.val.scale (by omega) (by omega) h2) hT
theorem Fix.bounds {cap : Bool} {total : Int} {ps : List Pr} {room W : Int} (g : Good ps) (fx : Fix cap total ps room W) : room ≤ total ∧ W ≤ sumW ps := by
  have h0 := sum_nonneg lim (ps.filter fun x => !free cap room W x) fun x hx => g.l0 x (List.mem_filter.mp hx).1
  have h1 := sum_split1 (fun x : Pr => x.2) (free cap room W) ps
  have h2 := sum_nonneg (fun x : Pr => x.2) (ps.filter fun x => !free cap room W x) fun x hx => g.w0 x (List.mem_filter.mp hx).1
  have e1 := fx.eR
  have e2 := fx.eW
  unfold sumL at e1
  unfold sumW at e2 ⊢
  omega
theorem lims_good {ps : List Pr} (g : Good ps) : Good (lims ps) ∧ sumW (lims ps) = sumW ps := by
  refine ⟨⟨fun y hy => ?_, fun y hy => ?_⟩, ?_⟩
  · obtain ⟨x, hx, rfl⟩ := List.mem_map.mp hy
    have := g.w0 x hx
    unfold lims1
    split <;> exact this
  · obtain ⟨x, hx, rfl⟩ := List.mem_map.mp hy
    have := g.l0 x hx
    unfold lims1
    split
    · exact this
    · exact Int.le_refl 0
  · unfold sumW lims
    rw [List.map_map]
    refine congrArg List.sum (List.map_congr_left fun x _ => ?_)
    show (lims1 x).2 = x.2
    unfold lims1
    split <;> rfl
/-- a level told is small -/
theorem Res.small {c : Bool} {total : Int} {ps : List Pr} {lv : Option (Int × Int)} {parts : List Int} (g : Good ps) (h : Res c total ps lv parts) {t b : Int} (e : lv = some (t, b)) : 0 ≤ t ∧ t ≤ total ∧ 0 < b ∧ b ≤ sumW ps := by
  rcases h with ⟨_, rfl, _⟩ | ⟨_, r, w, fx, rfl, _⟩
  · cases e
  obtain ⟨t1, b1, e1, _, z1, h1⟩ := low_pos fx.w0 fx.r0
  obtain ⟨l1, l2⟩ := low_le e1 fx.r0 fx.w0
  rw [e1] at e
  cases e
  have gl : Good (lsOf c ps) ∧ sumW (lsOf c ps) = sumW ps := by
    cases c with
    | true => exact lims_good g
    | false => exact ⟨g, rfl⟩
  obtain ⟨k1, k2⟩ := fx.bounds gl.1
  rw [gl.2] at k2
  omega

/-! ### what is told, and the case that it is told of -/
theorem bl_yes {p : Prop} [Decidable p] (h : p) : V.bl (decide p) = V.bl true := by rw [decide_eq_true h]
theorem bl_no {p : Prop} [Decidable p] (h : ¬ p) : V.bl (decide p) = V.bl false := by rw [decide_eq_false h]
theorem small_of {i : Int} (h : i.natAbs < 2 ^ 200) : small i := Nat.lt_of_lt_of_le h (Nat.pow_le_pow_right (by decide) (by decide))
def kI : Bool → Int
  | true => 0
  | false => 1
theorem kz_t : V.bl (decide (V.int (kI true) = V.int 0)) = V.bl true := bl_yes rfl
theorem kz_f : V.bl (decide (V.int (kI false) = V.int 0)) = V.bl false := bl_no fun z => by have := V.int.inj z; cases this
theorem kI_of {k : Int} (h0 : 0 ≤ k) (h1 : k < 2) : ∃ c, k = kI c := by
  rcases (by omega : k = 0 ∨ k = 1) with h | h
  · exact ⟨true, h⟩
  · exact ⟨false, h⟩
def sel {α : Type} : Bool → α → α → α
  | true, a, _ => a
  | false, _, b => b
theorem at_sel {c : Bool} {x y : V} : atI [x, y] (kI c) = some (sel c x y) := by
  cases c with
  | true => exact atI_nat (j := 0) rfl
  | false => exact atI_nat (j := 1) rfl
structure Told (H : Hp) (t q : Addr) (lv : Option (Int × Int)) (parts : List Int) : Prop where
  ex : ∃ lvv, H t = some (.tup [lvv, .ref q]) ∧ LvAt H lvv lv
  eq : H q = some (.lst (parts.map V.int))
theorem Told.same {H H' : Hp} {t q : Addr} {lv : Option (Int × Int)} {parts : List Int} (s : Same H H') (h : Told H t q lv parts) : Told H' t q lv parts := by
  obtain ⟨⟨lvv, et, el⟩, eq⟩ := h
  exact ⟨⟨lvv, s _ _ et, lvSame s el⟩, s _ _ eq⟩
theorem Told.upd {H : Hp} {t q z : Addr} {zs ys : List V} {lv : Option (Int × Int)} {parts : List Int} (hz : H z = some (.lst zs)) (nz : q ≠ z) (h : Told H t q lv parts) : Told (upd H z (.lst ys)) t q lv parts := by
  obtain ⟨⟨lvv, et, el⟩, eq⟩ := h
  have h1 : t ≠ z := fun e => by
    rw [e, hz] at et
    cases et
  refine ⟨⟨lvv, by rw [upd_ne h1]; exact et, ?_⟩, by rw [upd_ne nz]; exact eq⟩
  cases lv with
  | none => exact el
  | some ab =>
    obtain ⟨l, e, g⟩ := el
    have h2 : l ≠ z := fun e => by
      rw [e, hz] at g
      cases g
    exact ⟨l, e, by rw [upd_ne h2]; exact g⟩
structure CaseAt (H : Hp) (B L : Addr) (c : Bool) (ps : List Pr) : Prop where
  eB : H B = some (.lst (ps.map fun x => ov x.1))
  eL : H L = some (.lst (ps.map fun x => .int x.2))
  kn : c = false → ∀ x ∈ ps, x.1 ≠ none
theorem CaseAt.same {H H' : Hp} {B L : Addr} {c : Bool} {ps : List Pr} (s : Same H H') (h : CaseAt H B L c ps) : CaseAt H' B L c ps := ⟨s _ _ h.eB, s _ _ h.eL, h.kn⟩

/-! ### != of lists whose items are the same or copies, and of any thing with [] -/
def plainV (x : V) : Prop := flatV x = true ∨ ∃ a, x = .ref a
def SameV (H : Hp) (x y : V) : Prop := (x = y ∧ plainV x) ∨ ∃ a b zs, x = .ref a ∧ y = .ref b ∧ H a = some (.lst zs) ∧ H b = some (.lst zs) ∧ ∀ z ∈ zs, plainV z
theorem eqAt_plain {A : Around} {s : Shared} {x : V} {u v : Value} (ru : RelV x u) (rv : RelV x v) (h : plainV x) : SeqAt.EqAt A s u v true := by
  rcases h with h | ⟨a, rfl⟩
  · have e := eqAt_V (A := A) (s := s) ru rv h h
    have : eqV x x = true := by
      cases x with
      | non => rfl
      | bl b => exact beq_self_eq_true b
      | int i => exact beq_self_eq_true i
      | str z => exact beq_self_eq_true z
      | _ => cases h
    rw [this] at e
    exact e
  · cases ru
    cases rv
    exact SeqAt.EqAt.same _
theorem Paired.at {α β : Type} {R : α → β → Prop} : ∀ {xs : List α} {ys : List β}, Paired R xs ys → ∀ (i : Nat) (y : β), ys[i]? = some y → ∃ x, xs[i]? = some x ∧ R x y
  | _, _, .nil, i, y, h => by cases h
  | _, _, .cons r t, 0, y, h => ⟨_, rfl, by cases h; exact r⟩
  | _, _, .cons r t, i + 1, y, h => Paired.at t i y h
section
variable {X : Cx}
theorem items_same {A : Around} {s : Shared} {zs : List V} {us vs : List Value} (r1 : Vals zs us) (r2 : Vals zs vs) (hp : ∀ z ∈ zs, plainV z) (j : Nat) (h1 : j < us.toArray.size) (h2 : j < vs.toArray.size) : SeqAt.EqAt A s us.toArray[j] vs.toArray[j] true := by
  have e1 : us[j]? = some us.toArray[j] := by simp
  have e2 : vs[j]? = some vs.toArray[j] := by simp
  obtain ⟨x, hx, rx⟩ := Paired.at r1 j _ e1
  obtain ⟨y, hy, ry⟩ := Paired.at r2 j _ e2
  rw [hx] at hy
  cases hy
  exact eqAt_plain rx ry (hp _ (List.mem_of_getElem? hx))
theorem all_true : ∀ n : Nat, ((List.range n).all fun _ => true) = true := fun n => by
  rw [List.all_eq_true]
  exact fun _ _ => rfl
theorem eqAt_sameV {pins : List (Addr × Obj)} {σ : L2.St} {H : Hp} {s : Shared} (I : Inv X pins σ H s) {A : Around} (hu : A.units < cLine) {x y : V} {u v : Value} (ru : RelV x u) (rv : RelV y v) (h : SameV H x y) : SeqAt.EqAt A s u v true := by
  rcases h with ⟨rfl, hp⟩ | ⟨a, b, zs, rfl, rfl, ha, hb, hp⟩
  · exact eqAt_plain ru rv hp
  · cases ru
    cases rv
    by_cases e : a = b
    · rw [e]
      exact SeqAt.EqAt.same _
    · obtain ⟨us, r1, p1, _⟩ := I.list (.of ha)
      obtain ⟨vs, r2, p2, _⟩ := I.list (.of hb)
      have hsz : us.toArray.size = vs.toArray.size := by
        rw [List.size_toArray, List.size_toArray, ← r1.length, ← r2.length]
      have := SeqAt.RcAt.lists (A := A) (s := s) (e := fun _ => true) p1.isList p2.isList hsz hu (fun j h1 h2 => items_same r1 r2 hp j h1 h2)
      rw [all_true] at this
      exact SeqAt.EqAt.of_refs e this
def rNeCopy : R2 := fun x y H Q => ∃ a b xs ys, x = .ref a ∧ y = .ref b ∧ H a = some (.lst xs) ∧ H b = some (.lst ys) ∧ xs.length = ys.length ∧ (∀ (i : Nat) x y, xs[i]? = some x → ys[i]? = some y → SameV H x y) ∧ Q (.bl false) H
theorem op_neCopy (hu : X.A.units + 64 < cLine) : OpR X (compareOp .NotEq) rNeCopy := by
  intro pins s σ H x y v u Q I rx ry h
  obtain ⟨a, b, xs, ys, rfl, rfl, ha, hb, hl, hs, q⟩ := h
  cases rx
  cases ry
  obtain ⟨us, r1, p1, _⟩ := I.list (.of ha)
  obtain ⟨vs, r2, p2, _⟩ := I.list (.of hb)
  have hsz : us.toArray.size = vs.toArray.size := by
    rw [List.size_toArray, List.size_toArray, ← r1.length, ← r2.length, hl]
  refine SeqAt.RcNeAt.lists (e := fun _ => true) p1.isList p2.isList hsz (by omega) (fun j h1 h2 => ?_) _ _ _ _ ⟨.bl false, H, I, ?_, q⟩
  · have e1 : us[j]? = some us.toArray[j] := by simp
    have e2 : vs[j]? = some vs.toArray[j] := by simp
    obtain ⟨x, hx, rx⟩ := Paired.at r1 j _ e1
    obtain ⟨y, hy, ry⟩ := Paired.at r2 j _ e2
    exact eqAt_sameV I (by show X.A.units + 1 < cLine; omega) rx ry (hs j x y hx hy)
  · rw [all_true]
    rfl
end
/-- what is no list -/
inductive NoL (H : Hp) : V → Prop where
  | non : NoL H .non
  | bl (b : Bool) : NoL H (.bl b)
  | int (i : Int) : NoL H (.int i)
  | str (x : Str) : NoL H (.str x)
  | tup {a : Addr} {xs : List V} (e : H a = some (.tup xs)) : NoL H (.ref a)
  | dK {a : Addr} {kvs : List (Key × V)} (e : H a = some (.dK kvs)) : NoL H (.ref a)
theorem NoL.ty {K : PySem.W.Frag} {H : Hp} {v : V} (h : NoL H v) : ∃ T, TyX K H v (.type T) ∧ kitB T "list" = some false := by
  cases h with
  | non => exact ⟨_, .base .non, by decide +kernel⟩
  | bl b => exact ⟨_, .base (.bl b), by decide +kernel⟩
  | int i => exact ⟨_, .base (.int i), by decide +kernel⟩
  | str x => exact ⟨_, .base (.str x), by decide +kernel⟩
  | tup e => exact ⟨_, .base (.tup e), by decide +kernel⟩
  | dK e => exact ⟨_, .base (.dK e), by decide +kernel⟩

/-! ### a dict is no list -/
section
open PySem.SeqAt PySem.MeetsSeq PySem.MeetsSeq2 PySem.MeetsSeq3
open PySem.AutoSeq1 (wpAny_loadPart')
theorem list_ne_declines_dict (l b : Addr) (items : Array Value) (n : Nat) (dd dd2 : Option Addr) (dt : Data) (sl sl2 : Array (Option Value)) :
    Meets (Builtin.«list.__ne__» ⟨[.ref l, .ref b], []⟩) (fun _ R s => s.heap.get? l = some { cls := .type "list", dict := dd, data := .seq items n, slots := sl } ∧ s.heap.get? b = some { cls := .type "dict", dict := dd2, data := dt, slots := sl2 } ∧ R (.ok (.ret .notImplemented)) s) :=
  .of_wp fun prog w A R s h => by obtain ⟨hp, g, d, tk, os⟩ := s; obtain ⟨hl, hb, h⟩ := h; have f1 := F.sub_dict_list; wp_walk using wpAny_loadPart' hl, wpAny_loadPart' hb; exact ⟨_, rfl, h⟩
theorem ne_dict_list {A : Around} {s : Shared} {a b : Addr} {od : Obj} {items : Array Value} (ha : s.heap.get? a = some od) (hc : od.cls = .type "dict") (hl : s.heap.IsList b items) (hu : A.units < cLine) : RcNeAt A s (.ref a) (.ref b) true := fun prog w E Q h => by
  obtain ⟨⟨cls, dd, data, sl⟩, ho, hcl, n, hd⟩ := id hl
  obtain ⟨cls2, dd2, data2, sl2⟩ := od
  simp only at hc hcl hd
  subst hc hcl hd
  have hne : a ≠ b := fun e => by
    rw [e, ho] at ha
    exact absurd (Value.type.inj (congrArg Obj.cls (Option.some.inj ha))) (by decide)
  have ta : s.TypeIs (.ref a) "dict" := ⟨_, ha, rfl⟩
  refine rc_ne_decline_or (k := false) ta ⟨_, ho, rfl⟩ (by decide) F.sub_list_dict F.slot_dict_ne F.slot_list_ne_refl (fun Q' hq => ?_)
    (fun _ hq => call_meets F.slot_list_ne_refl ⟨_, ho, rfl⟩ F.entry_list_ne (F.args_list_ne_2 _ _) (list_ne_declines_dict b a items n dd dd2 data2 sl sl2) ⟨ho, ha, hq⟩)
    (fun _ hq => wpAny_isSame_ref_other' hne ha ho (by simp) hq) (.inr hu) h
  refine wpAny_call_entry F.slot_dict_ne ta F.entry_dict_ne ?_ (F.args_dict_ne_2 _ _)
  show wpAny _ _ (Builtin.Dict.dictSlotArgs "__ne__" ⟨[.ref a, .ref b], []⟩ >>= _) _ _ s
  refine wpAny_bind ?_
  unfold Builtin.Dict.dictSlotArgs
  refine wpAny_bind (wpAny_notOrdered_dict ta ?_)
  show wpAny _ _ (pure (Value.ref a, Value.ref b)) _ _ s
  refine wpAny_pure ?_
  refine wpAny_bind (wpAny_isInstance (T := "list") ⟨_, ho, rfl⟩ F.sub_list_dict ?_)
  exact wpAny_bind (wpAny_rule (wpAny_pure ⟨_, rfl, hq⟩))
end
section
variable {X : Cx}
/-- any thing, and [] -/
def rNeNil (K : PySem.W.Frag) : R2 := fun x y H Q => ∃ b, y = .ref b ∧ H b = some (.lst []) ∧ ((NoL H x ∧ Q (.bl true) H) ∨ ∃ a xs, x = .ref a ∧ H a = some (.lst xs) ∧ Q (.bl (!xs.isEmpty)) H)
theorem op_neNil (hu : X.A.units + 64 < cLine) : OpR X (compareOp .NotEq) (rNeNil X.K) := by
  intro pins s σ H x y v u Q I rx ry h
  have hu0 : X.A.units < cLine := by omega
  obtain ⟨b, rfl, hb, h⟩ := h
  cases ry
  obtain ⟨vs, r2, p2, _⟩ := I.list (.of hb)
  cases r2
  rcases h with ⟨nl, q⟩ | ⟨a, xs, rfl, ha, q⟩
  · have fin : EP X pins σ Q (.bool true) s := ⟨.bl true, H, I, rfl, q⟩
    cases nl with
    | non =>
      cases rx
      exact SeqAt.RcNeAt.none_list p2.isList hu0 _ _ _ _ fin
    | bl k =>
      cases rx
      exact SeqAt.RcNeAt.bool_list k p2.isList hu0 _ _ _ _ fin
    | int i =>
      obtain ⟨t, rfl⟩ := rx
      exact SeqAt.RcNeAt.int_list i t p2.isList hu0 _ _ _ _ fin
    | str z =>
      obtain ⟨t, rfl⟩ := rx
      exact SeqAt.RcNeAt.str_list z t p2.isList hu0 _ _ _ _ fin
    | tup e =>
      cases rx
      obtain ⟨us, r1, p1, _⟩ := I.tuple (.of e)
      exact SeqAt.RcNeAt.tuple_list p1 p2.isList hu0 _ _ _ _ fin
    | dK e =>
      cases rx
      obtain ⟨_, _, kv, _, od, es, ep, eo, c⟩ := I.hok _ _ e
      exact ne_dict_list eo c.1.1 p2.isList hu0 _ _ _ _ fin
  · cases rx
    obtain ⟨us, r1, p1, _⟩ := I.list (.of ha)
    cases r1 with
    | nil =>
      refine SeqAt.RcNeAt.lists (e := fun _ => true) p1.isList p2.isList rfl hu0 (fun j h1 h2 => ?_) _ _ _ _ ⟨.bl false, H, I, rfl, q⟩
      exact absurd h1 (Nat.not_lt_zero _)
    | cons r t =>
      refine SeqAt.RcNeAt.lists_lengths p1.isList p2.isList ?_ hu0 _ _ _ _ ⟨.bl true, H, I, rfl, q⟩
      simp
end

/-! ### what is no number, no list -/
inductive NoInt (H : Hp) : V → Prop where
  | non : NoInt H .non
  | str (x : Str) : NoInt H (.str x)
  | lst {a : Addr} {xs : List V} (e : H a = some (.lst xs)) (hp : ∀ x ∈ xs, plainV x) : NoInt H (.ref a)
  | tup {a : Addr} {xs : List V} (e : H a = some (.tup xs)) : NoInt H (.ref a)
  | dK {a : Addr} {kvs : List (Key × V)} (e : H a = some (.dK kvs)) : NoInt H (.ref a)
theorem NoInt.same {H H' : Hp} {v : V} (h : NoInt H v) (s : Same H H') : NoInt H' v := by
  cases h with
  | non => exact .non
  | str x => exact .str x
  | lst e hp => exact .lst (s _ _ e) hp
  | tup e => exact .tup (s _ _ e)
  | dK e => exact .dK (s _ _ e)
theorem src_ne {H : Hp} {p a : Addr} (hs : Src H p) {o : HO} (e : H a = some o) (h : ∀ xs, o ≠ .lst xs) : a ≠ p := fun z => by
  obtain ⟨x, y, w, e2⟩ := hs
  rw [z, e2] at e
  cases e
  exact h _ rfl
theorem NoInt.off {H H' : Hp} {p : Addr} {v : V} (h : NoInt H v) (hs : Src H p) (hs' : Src H' p) (o : Off p H H') : NoInt H' v := by
  cases h with
  | non => exact .non
  | str x => exact .str x
  | @lst a xs e hp =>
    by_cases z : a = p
    · obtain ⟨x, y, w, e2⟩ := hs'
      rw [z]
      refine .lst e2 fun v hv => ?_
      simp only [List.mem_cons, List.not_mem_nil, or_false] at hv
      rcases hv with rfl | rfl | rfl <;> exact .inl rfl
    · exact .lst (o _ _ e z) hp
  | tup e => exact .tup (o _ _ e (src_ne hs e (fun _ z => by cases z)))
  | dK e => exact .dK (o _ _ e (src_ne hs e (fun _ z => by cases z)))
theorem NoInt.ty {K : PySem.W.Frag} {H : Hp} {v : V} (h : NoInt H v) : ∃ T, TyX K H v (.type T) ∧ kitB T "int" = some false := by
  cases h with
  | non => exact ⟨_, .base .non, by decide +kernel⟩
  | str x => exact ⟨_, .base (.str x), by decide +kernel⟩
  | lst e _ => exact ⟨_, .base (.lst e), by decide +kernel⟩
  | tup e => exact ⟨_, .base (.tup e), by decide +kernel⟩
  | dK e => exact ⟨_, .base (.dK e), by decide +kernel⟩
theorem NoL.same {H H' : Hp} {v : V} (h : NoL H v) (s : Same H H') : NoL H' v := by
  cases h with
  | non => exact .non
  | bl b => exact .bl b
  | int i => exact .int i
  | str x => exact .str x
  | tup e => exact .tup (s _ _ e)
  | dK e => exact .dK (s _ _ e)
theorem NoL.off {H H' : Hp} {p : Addr} {v : V} (h : NoL H v) (hs : Src H p) (o : Off p H H') : NoL H' v := by
  cases h with
  | non => exact .non
  | bl b => exact .bl b
  | int i => exact .int i
  | str x => exact .str x
  | tup e => exact .tup (o _ _ e (src_ne hs e (fun _ z => by cases z)))
  | dK e => exact .dK (o _ _ e (src_ne hs e (fun _ z => by cases z)))
def WK (H : Hp) (x : V) : Prop := (∃ i, x = .int i) ∨ (∃ k, x = .bl k) ∨ NoInt H x
theorem WK.same {H H' : Hp} {x : V} (h : WK H x) (s : Same H H') : WK H' x := h.imp id (.imp id fun z => z.same s)
theorem WK.off {H H' : Hp} {p : Addr} {x : V} (h : WK H x) (hs : Src H p) (hs' : Src H' p) (o : Off p H H') : WK H' x := h.imp id (.imp id fun z => z.off hs hs' o)
theorem WK.plain {H : Hp} {x : V} (h : WK H x) : plainV x := by
  rcases h with ⟨i, rfl⟩ | ⟨k, rfl⟩ | h
  · exact .inl rfl
  · exact .inl rfl
  · cases h with
    | non => exact .inl rfl
    | str x => exact .inl rfl
    | lst e _ => exact .inr ⟨_, rfl⟩
    | tup e => exact .inr ⟨_, rfl⟩
    | dK e => exact .inr ⟨_, rfl⟩
def isI : V → Bool
  | .int _ => true
  | _ => false
def cntV : V → Bool
  | .int i => decide (0 ≤ i)
  | _ => false
theorem cnt_int {x : V} (h : cntV x = true) : ∃ i, x = .int i ∧ 0 ≤ i := by
  cases x with
  | int i => exact ⟨i, rfl, of_decide_eq_true h⟩
  | _ => cases h
def seqV (H : Hp) (p : Addr) (v : V) : Option (List V) → Prop
  | some xs => ∃ a, v = .ref a ∧ a ≠ p ∧ H a = some (.lst xs) ∧ xs.length ≤ 4000 ∧ ∀ x ∈ xs, WK H x
  | none => NoL H v
theorem seqV.same {H H' : Hp} {p : Addr} {v : V} {o : Option (List V)} (h : seqV H p v o) (s : Same H H') : seqV H' p v o := by
  cases o with
  | none => exact NoL.same h s
  | some xs =>
    obtain ⟨a, rfl, n, e, l, w⟩ := h
    exact ⟨a, rfl, n, s _ _ e, l, fun x hx => (w x hx).same s⟩
theorem seqV.off {H H' : Hp} {p : Addr} {v : V} {o : Option (List V)} (h : seqV H p v o) (hs : Src H p) (hs' : Src H' p) (f : Off p H H') : seqV H' p v o := by
  cases o with
  | none => exact NoL.off h hs f
  | some xs =>
    obtain ⟨a, rfl, n, e, l, w⟩ := h
    exact ⟨a, rfl, n, f _ _ e n, l, fun x hx => (w x hx).off hs hs' f⟩
def Bad (c : Bool) (v0 : V) (o1 o2 : Option (List V)) : Prop := cntV v0 = false ∨ match o1, o2 with
  | some xs, some ys => (∃ x ∈ xs, cntV x = false ∧ (c = true → x ≠ .non)) ∨ (∃ y ∈ ys, cntV y = false) ∨ xs.length ≠ ys.length
  | _, _ => True
def spWholeA : Sp := fun vs H Q _ => ∃ x : V, vs = [x] ∧ WK H x ∧ Q (.bl (isI x)) H
def spCountA : Sp := fun vs H Q _ => ∃ x : V, vs = [x] ∧ WK H x ∧ Q (.bl (cntV x)) H
def spNoListX (mg : Str → Option Value) : Sp := fun vs H Q E => ∃ v : V, vs = [v] ∧ ((∃ a xs, v = .ref a ∧ H a = some (.lst xs) ∧ Q .non H) ∨ (NoL H v ∧ E (.ref (clsA mg "NoNumber")) none H))
def spNoCountsX (mg : Str → Option Value) : Sp := fun vs H Q E => ∃ (a : Addr) (xs : List V), vs = [.ref a] ∧ H a = some (.lst xs) ∧ (∀ x ∈ xs, WK H x) ∧ (xs.all cntV = true → Q .non H) ∧ (xs.all cntV = false → E (.ref (clsA mg "NoNumber")) none H)
def spNoWeightsX (mg : Str → Option Value) : Sp := fun vs H Q E => ∃ (p : Addr) (v : V) (n : Int) (o : Option (List V)), vs = [v, .int n] ∧ seqV H p v o ∧ (∀ xs, o = some xs → xs.all cntV = true → (xs.length : Int) = n → Q .non H) ∧ (¬ (∃ xs, o = some xs ∧ xs.all cntV = true ∧ (xs.length : Int) = n) → E (.ref (clsA mg "NoNumber")) none H)
def spDealtX (mg : Str → Option Value) (c : Bool) : Sp := fun vs H _ E => ∃ (p : Addr) (v0 v1 v2 : V) (o1 o2 : Option (List V)), vs = [v0, v1, v2] ∧ WK H v0 ∧ seqV H p v1 o1 ∧ seqV H p v2 o2 ∧ Bad c v0 o1 o2 ∧ ∀ H', Same H H' → E (.ref (clsA mg "NoNumber")) none H'
section
variable {P : Program} {w : World} {K : PySem.W.Frag} {mg : Str → Option Value} {base : Heap}
theorem ok_wholeA (T : Txt K mg) : Ok P w K mg base CX0 "is_whole" s_p_is_whole 1 ["thing"] spWholeA := by
  refine T.h_p_is_whole.ok sc_p_is_whole (fun vs H Q E h => ?_) (fun f cdv A outer s H vs Q E hr h => ?_)
  · obtain ⟨x, rfl, _⟩ := h; rfl
  obtain ⟨x, rfl, wk, q⟩ := h
  refine ⟨_, (pss_one (ps_ret (pe_and (pe_callB call_isi (by rfl) T.m_isinstance (by decide +kernel) (pa_cons (pv 0) (pa_cons (pe_bltn (v := .ty "int") (by rfl) T.m_int (by decide +kernel) rfl) pa_nil))) (pe_one (pe_not (pe_callB call_isi (by rfl) T.m_isinstance (by decide +kernel) (pa_cons (pv 0) (pa_cons (pe_bltn (v := .ty "bool") (by rfl) T.m_bool (by decide +kernel) rfl) pa_nil)))))))), ?_⟩
  rcases wk with ⟨i, rfl⟩ | ⟨k, rfl⟩ | nt
  · refine ⟨_, rfl, _, _, _, _, true, rfl, .ty _, .base (.int i), kit_ty (by decide +kernel), true, rfl, iteT ?_⟩
    exact ⟨_, rfl, _, _, _, _, false, rfl, .ty _, .base (.int i), kit_ty (by decide +kernel), false, rfl, q⟩
  · refine ⟨_, rfl, _, _, _, _, true, rfl, .ty _, .base (.bl k), kit_ty (by decide +kernel), true, rfl, iteT ?_⟩
    exact ⟨_, rfl, _, _, _, _, true, rfl, .ty _, .base (.bl k), kit_ty (by decide +kernel), true, rfl, q⟩
  · obtain ⟨t, ty, e⟩ := nt.ty (K := K)
    refine ⟨_, rfl, _, _, _, _, false, rfl, .ty _, ty, kit_ty e, false, rfl, iteF ?_⟩
    have : isI x = false := by cases nt <;> rfl
    rw [this] at q
    exact q
theorem ok_countA (T : Txt K mg) : Ok P w K mg base CX0 "is_count" s_p_is_count 2 ["thing"] spCountA := by
  have O_p_is_whole := ok_wholeA (P := P) (w := w) (base := base) T
  refine T.h_p_is_count.ok sc_p_is_count (fun vs H Q E h => ?_) (fun f cdv A outer s H vs Q E hr h => ?_)
  · obtain ⟨x, rfl, _⟩ := h; rfl
  obtain ⟨x, rfl, wk, q⟩ := h
  refine ⟨_, (pss_one (ps_ret (pe_and (callO O_p_is_whole (hr.mono (by decide)) (by rfl) (pa_cons (pv 0) pa_nil)) (pe_one (pe_cmpR op_ge (pv 0) pe_int (nomark _)))))), ?_⟩
  refine ⟨_, rfl, x, rfl, wk, isI x, rfl, ?_⟩
  cases x with
  | int i => exact iteT ⟨_, rfl, _, _, rfl, rfl, q⟩
  | _ => exact iteF q
theorem okX_no_list (T : Txt K mg) : Ok P w K mg base (L2.CX P w) "refuse_no_list" s_p_refuse_no_list 1 ["thing"] (spNoListX mg) := by
  refine T.h_p_refuse_no_list.okX sc_p_refuse_no_list (fun vs H Q E h => ?_) (fun f cdv A outer s H vs Q E hr h => ?_)
  · obtain ⟨x, rfl, _⟩ := h; rfl
  obtain ⟨v, rfl, h⟩ := h
  refine ⟨_, (pss_one (ps_if (pt_not (pt_val (pe_callB call_isi (by rfl) T.m_isinstance (by decide +kernel) (pa_cons (pv 0) (pa_cons (pe_bltn (v := .ty "list") (by rfl) T.m_list (by decide +kernel) rfl) pa_nil)))))
      (pss_one (ps_raise rfl (takes_of rfl rfl rfl rfl) (pmk_own PySem.F.excBase_ValueError T.e_NoNumber.xi T.e_NoNumber.g T.e_NoNumber.k (raises_own T.e_NoNumber.b T.e_NoNumber.t) (by rfl))))
      pss_nil)), ?_⟩
  rcases h with ⟨a, xs, rfl, ha, q⟩ | ⟨nl, e⟩
  · exact ⟨_, rfl, _, _, _, _, true, rfl, .ty _, .base (.lst ha), kit_ty (by decide +kernel), true, rfl, iteF q⟩
  · obtain ⟨t, ty, ek⟩ := nl.ty (K := K)
    exact ⟨_, rfl, _, _, _, _, false, rfl, .ty _, ty, kit_ty ek, false, rfl, iteT e⟩
theorem okX_no_counts (T : Txt K mg) : Ok P w K mg base (L2.CX P w) "refuse_no_counts" s_p_refuse_no_counts 3 ["things"] (spNoCountsX mg) := by
  have O_p_is_count := ok_countA (P := P) (w := w) (base := base) T
  refine T.h_p_refuse_no_counts.okX sc_p_refuse_no_counts (fun vs H Q E h => ?_) (fun f cdv A outer s H vs Q E hr h => ?_)
  · obtain ⟨x, _, rfl, _⟩ := h; rfl
  obtain ⟨a, xs, rfl, ha, wk, hq, he⟩ := h
  refine ⟨_, (pss_one (ps_for (passes_of rfl) rfl (pi_list (pv 0)) (pg_name (i := 1) sc_p_refuse_no_counts.nd rfl (by first | exact Or.inl rfl | exact Or.inr rfl))
      (pss_one (ps_if (pt_not (pt_val (callO O_p_is_count (hr.mono (by decide)) (by rfl) (pa_cons (pv 1) pa_nil))))
      (pss_one (ps_raise rfl (takes_of rfl rfl rfl rfl) (pmk_own PySem.F.excBase_ValueError T.e_NoNumber.xi T.e_NoNumber.g T.e_NoNumber.k (raises_own T.e_NoNumber.b T.e_NoNumber.t) (by rfl))))
      pss_nil)))), ?_⟩
  refine ⟨_, rfl, a, rfl, ⟨_, .of ha⟩, for_list (K := K) (a := a) (xs := xs) (fun i σ H' => ∃ v1, σ = [some (.ref a), v1] ∧ H' = H ∧ (xs.take i).all cntV = true) ⟨none, rfl, rfl, rfl⟩ (fun i σ H' _ h => by obtain ⟨_, _, rfl, _⟩ := h; exact .of ha) ?_ ?_⟩
  · rintro i y σ H' hi ⟨v1, rfl, rfl, hall⟩
    refine ⟨_, rfl, y, rfl, wk y (List.mem_of_getElem? hi), _, rfl, ?_⟩
    cases hc : cntV y with
    | true =>
      refine iteF ⟨_, rfl, rfl, ?_⟩
      rw [List.take_add_one, hi, List.all_append, hall]
      simp [hc]
    | false =>
      refine iteT (he ?_)
      rw [List.all_eq_false]
      exact ⟨y, List.mem_of_getElem? hi, by rw [hc]; decide⟩
  · rintro σ H' ⟨v1, rfl, rfl, hall⟩
    rw [List.take_length] at hall
    exact hq hall
theorem okX_no_weights (T : Txt K mg) : Ok P w K mg base (L2.CX P w) "refuse_no_weights" s_p_refuse_no_weights 4 ["weights", "many"] (spNoWeightsX mg) := by
  have O_X_p_refuse_no_list := okX_no_list (P := P) (w := w) (base := base) T
  have O_X_p_refuse_no_counts := okX_no_counts (P := P) (w := w) (base := base) T
  refine T.h_p_refuse_no_weights.okX sc_p_refuse_no_weights (fun vs H Q E h => ?_) (fun f cdv A outer s H vs Q E hr h => ?_)
  · obtain ⟨_, _, _, _, rfl, _⟩ := h; rfl
  obtain ⟨p, v, n, o, rfl, sv, hq, he⟩ := h
  refine ⟨_, (pss_cons (ps_expr (callX O_X_p_refuse_no_list (hr.mono (by decide)) (by rfl) (takes_of rfl rfl rfl rfl) (pa_cons (pv 0) pa_nil)))
      (pss_cons (ps_expr (callX O_X_p_refuse_no_counts (hr.mono (by decide)) (by rfl) (takes_of rfl rfl rfl rfl) (pa_cons (pv 0) pa_nil)))
      (pss_one (ps_if (pt_cmpR op_ne (pe_callB call_len (by rfl) T.m_len (by decide +kernel) (pa_cons (pv 0) pa_nil)) (pv 1) (nomark _))
      (pss_one (ps_raise rfl (takes_of rfl rfl rfl rfl) (pmk_own PySem.F.excBase_ValueError T.e_NoNumber.xi T.e_NoNumber.g T.e_NoNumber.k (raises_own T.e_NoNumber.b T.e_NoNumber.t) (by rfl))))
      pss_nil)))), ?_⟩
  cases o with
  | none => exact ⟨_, rfl, v, rfl, .inr ⟨sv, he (fun z => by obtain ⟨_, z, _⟩ := z; cases z)⟩⟩
  | some xs =>
    obtain ⟨a, rfl, _, ha, l1, wk⟩ := sv
    refine ⟨_, rfl, _, rfl, .inl ⟨a, xs, rfl, ha, ?_⟩⟩
    refine ⟨_, rfl, a, xs, rfl, ha, wk, fun hall => ?_, fun hall => he fun z => ?_⟩
    · refine ⟨_, rfl, _, _, rfl, .inl ⟨_, .of ha, rfl⟩, _, rfl, rfl, _, rfl, ite2 (fun e => ?_) (fun e => ?_)⟩
      · refine he fun z => ?_
        obtain ⟨ys, hy, _, hn⟩ := z
        cases hy
        rw [hn, decide_eq_true rfl] at e
        cases e
      · refine hq xs rfl hall ?_
        by_cases hn : (xs.length : Int) = n
        · exact hn
        · exfalso
          apply e
          rw [decide_eq_false fun z => hn (V.int.inj z)]
          rfl
    · obtain ⟨ys, hy, h2, _⟩ := z
      cases hy
      rw [hall] at h2
      cases h2
theorem not_all {xs : List V} (h : ∃ x ∈ xs, cntV x = false) : ¬ xs.all cntV = true := fun z => by
  obtain ⟨x, hx, hc⟩ := h
  rw [List.all_eq_true] at z
  rw [z x hx] at hc
  cases hc
def skipN (x : V) : Option V := if x = .non then none else some x
theorem okX_dealt (T : Txt K mg) : Ok P w K mg base (L2.CX P w) "dealt" s_p_dealt 5 ["total", "caps", "weights"] (spDealtX mg true) := by
  have O_X_p_refuse_no_list := okX_no_list (P := P) (w := w) (base := base) T
  have O_X_p_refuse_no_counts := okX_no_counts (P := P) (w := w) (base := base) T
  have O_X_p_refuse_no_weights := okX_no_weights (P := P) (w := w) (base := base) T
  refine T.h_p_dealt.okX sc_p_dealt (fun vs H Q E h => ?_) (fun f cdv A outer s H vs Q E hr h => ?_)
  · obtain ⟨_, _, _, _, _, _, rfl, _⟩ := h; rfl
  obtain ⟨p, v0, v1, v2, o1, o2, rfl, w0, s1, s2, bad, e⟩ := h
  refine ⟨_, (pss_cons (ps_expr (callX O_X_p_refuse_no_counts (hr.mono (by decide)) (by rfl) (takes_of rfl rfl rfl rfl) (pa_cons (pe_lst (pa_cons (pv 0) pa_nil)) pa_nil)))
      (pss_cons (ps_expr (callX O_X_p_refuse_no_list (hr.mono (by decide)) (by rfl) (takes_of rfl rfl rfl rfl) (pa_cons (pv 1) pa_nil)))
      (pss_cons (ps_expr (callX O_X_p_refuse_no_counts (hr.mono (by decide)) (by rfl) (takes_of rfl rfl rfl rfl) (pa_cons (pe_lc (own := [("cap", 3)]) (by rfl) sc_p_dealt.nd (pi_list (pv 1)) (blkOk_by (own := [("cap", 3)]) (N := n_p_dealt) (sc := defScope s_p_dealt) (by decide +kernel)) (fun _ _ _ _ _ => (pg_name (i := 3) sc_p_dealt.nd rfl (by first | exact Or.inl rfl | exact Or.inr rfl))) (fun _ _ _ _ _ => (pts_one (pt_cmpR op_notN (pv 3) pe_non (nomark _)))) (fun _ _ _ _ _ => (pv 3))) pa_nil)))
      (pss_cons (ps_expr (callX O_X_p_refuse_no_weights (hr.mono (by decide)) (by rfl) (takes_of rfl rfl rfl rfl) (pa_cons (pv 2) (pa_cons (pe_callB call_len (by rfl) T.m_len (by decide +kernel) (pa_cons (pv 1) pa_nil)) pa_nil))))
      pss_never)))), ?_⟩
  refine ⟨_, rfl, (by show 1 ≤ sizeLine; decide), fun l nl => ?_⟩
  have sl := same_upd (o := .lst [v0]) nl
  refine ⟨l, [v0], rfl, upd_same, (fun x hx => by rw [List.mem_singleton.mp hx]; exact w0.same sl), fun h0 => ?_, fun _ => e _ sl⟩
  have c0 : cntV v0 = true := by simpa using h0
  cases o1 with
  | none => exact ⟨_, rfl, v1, rfl, .inr ⟨NoL.same s1 sl, e _ sl⟩⟩
  | some xs =>
    obtain ⟨a, rfl, _, ha, l1, wk⟩ := s1
    have ha1 := sl _ _ ha
    refine ⟨_, rfl, _, rfl, .inl ⟨a, xs, rfl, ha1, ?_⟩⟩
    have ha2 : SqL K (upd H l (.lst [v0])) a (xs.map fun x => x) := by
      rw [List.map_id']
      exact .of ha1
    refine ⟨_, rfl, a, rfl, ⟨_, .of ha1⟩, fun D nD => lcF_list (K := K) (as := xs) (fun x => x) skipN (fun x => x) ha2 nD (by omega) ?_ ?_⟩
    · intro i x H' A' B' hx sm ka kb
      refine ⟨rfl, _, rfl, rfl, _, rfl, ite2 (fun h => ?_) (fun h => ?_)⟩
      · refine ⟨_, rfl, ka x _ ?_ (Same.refl _)⟩
        unfold skipN
        rw [if_neg]
        intro z
        rw [z] at h
        cases h
      · refine kb _ ?_ (Same.refl _)
        unfold skipN
        rw [if_pos]
        by_cases z : x = .non
        · exact z
        · exfalso
          apply h
          rw [decide_eq_false z]
          rfl
    intro H2 s2' eD
    rw [List.map_id'] at eD
    have s02 := sl.trans s2'
    refine ⟨D, _, rfl, eD, (fun x hx => ?_), fun hall => ?_, fun _ => e _ s02⟩
    · obtain ⟨y, hy, h⟩ := List.mem_filterMap.mp hx
      unfold skipN at h
      split at h
      · cases h
      · cases h
        exact (wk _ hy).same s02
    · refine ⟨_, rfl, _, rfl, _, _, rfl, .inl ⟨_, .of (s2' _ _ ha1), rfl⟩, p, v2, _, o2, rfl, s2.same s02, fun ys hy hya hyl => ?_, fun _ => e _ s02⟩
      exfalso
      subst hy
      rcases bad with h | h
      · rw [c0] at h
        cases h
      · rcases h with ⟨x, hx, hc, hn⟩ | h | h
        · refine not_all ⟨x, List.mem_filterMap.mpr ⟨x, hx, ?_⟩, hc⟩ hall
          unfold skipN
          rw [if_neg (hn rfl)]
        · exact not_all h hya
        · omega
theorem okX_levelled (T : Txt K mg) : Ok P w K mg base (L2.CX P w) "levelled" s_p_levelled 5 ["total", "floors", "weights"] (spDealtX mg false) := by
  have O_X_p_refuse_no_list := okX_no_list (P := P) (w := w) (base := base) T
  have O_X_p_refuse_no_counts := okX_no_counts (P := P) (w := w) (base := base) T
  have O_X_p_refuse_no_weights := okX_no_weights (P := P) (w := w) (base := base) T
  refine T.h_p_levelled.okX sc_p_levelled (fun vs H Q E h => ?_) (fun f cdv A outer s H vs Q E hr h => ?_)
  · obtain ⟨_, _, _, _, _, _, rfl, _⟩ := h; rfl
  obtain ⟨p, v0, v1, v2, o1, o2, rfl, w0, s1, s2, bad, e⟩ := h
  refine ⟨_, (pss_cons (ps_expr (callX O_X_p_refuse_no_counts (hr.mono (by decide)) (by rfl) (takes_of rfl rfl rfl rfl) (pa_cons (pe_lst (pa_cons (pv 0) pa_nil)) pa_nil)))
      (pss_cons (ps_expr (callX O_X_p_refuse_no_list (hr.mono (by decide)) (by rfl) (takes_of rfl rfl rfl rfl) (pa_cons (pv 1) pa_nil)))
      (pss_cons (ps_expr (callX O_X_p_refuse_no_counts (hr.mono (by decide)) (by rfl) (takes_of rfl rfl rfl rfl) (pa_cons (pv 1) pa_nil)))
      (pss_cons (ps_expr (callX O_X_p_refuse_no_weights (hr.mono (by decide)) (by rfl) (takes_of rfl rfl rfl rfl) (pa_cons (pv 2) (pa_cons (pe_callB call_len (by rfl) T.m_len (by decide +kernel) (pa_cons (pv 1) pa_nil)) pa_nil))))
      pss_never)))), ?_⟩
  refine ⟨_, rfl, (by show 1 ≤ sizeLine; decide), fun l nl => ?_⟩
  have sl := same_upd (o := .lst [v0]) nl
  refine ⟨l, [v0], rfl, upd_same, (fun x hx => by rw [List.mem_singleton.mp hx]; exact w0.same sl), fun h0 => ?_, fun _ => e _ sl⟩
  have c0 : cntV v0 = true := by simpa using h0
  cases o1 with
  | none => exact ⟨_, rfl, v1, rfl, .inr ⟨NoL.same s1 sl, e _ sl⟩⟩
  | some xs =>
    obtain ⟨a, rfl, _, ha, l1, wk⟩ := s1
    have ha1 := sl _ _ ha
    refine ⟨_, rfl, _, rfl, .inl ⟨a, xs, rfl, ha1, ?_⟩⟩
    refine ⟨_, rfl, a, xs, rfl, ha1, (fun x hx => (wk x hx).same sl), fun hall => ?_, fun _ => e _ sl⟩
    refine ⟨_, rfl, _, rfl, _, _, rfl, .inl ⟨_, .of ha1, rfl⟩, p, v2, _, o2, rfl, s2.same sl, fun ys hy hya hyl => ?_, fun _ => e _ sl⟩
    exfalso
    subst hy
    rcases bad with h | h
    · rw [c0] at h
      cases h
    · rcases h with ⟨x, hx, hc, _⟩ | h | h
      · exact not_all ⟨x, hx, hc⟩ hall
      · exact not_all h hya
      · omega
end

/-! ### this law's defs -/
def spDeal : Sp := fun vs H Q _ => ∃ (c : Bool) (total : Int) (B L : Addr) (ps : List Pr), vs = [.int (kI c), .int total, .ref B, .ref L] ∧ CaseAt H B L c ps ∧ Fits total ps ∧
  ∀ t q lv parts H', H t = none → H q = none → Res c total ps lv parts → Told H' t q lv parts → Same H H' → Q (.ref t) H'
def spDealX (mg : Str → Option Value) : Sp := fun vs H _ E => ∃ (p : Addr) (c : Bool) (v0 v1 v2 : V) (o1 o2 : Option (List V)), vs = [.int (kI c), v0, v1, v2] ∧ WK H v0 ∧ seqV H p v1 o1 ∧ seqV H p v2 o2 ∧ Bad c v0 o1 o2 ∧ ∀ H', Same H H' → E (.ref (clsA mg "NoNumber")) none H'
def spNumbers : Sp := fun vs H Q _ => ∃ (p : Addr) (n : Int), vs = [.ref p, .int n] ∧ Src H p ∧ 0 ≤ n ∧ n ≤ 60 ∧ ∀ (D : Addr) (ns : List Int) H', D ≠ p → (ns.length : Int) = n → (∀ x ∈ ns, 0 ≤ x ∧ x ≤ 1000000000000) → H' D = some (.lst (ns.map V.int)) → Src H' p → Off p H H' → Q (.ref D) H'
def spNoNumber : Sp := fun vs H Q _ => ∃ (p : Addr) (k : Int), vs = [.ref p, .int k] ∧ Src H p ∧ ∀ (v : V) H', WK H' v → cntV v = false → (k = 0 → v ≠ .non) → Src H' p → Off p H H' → Q v H'
def spNoListV : Sp := fun vs H Q _ => ∃ (p row : Addr) (xs : List V), vs = [.ref p, .ref row] ∧ Src H p ∧ row ≠ p ∧ H row = some (.lst xs) ∧ ∀ (v : V) H', NoL H' v → Src H' p → Off p H H' → Q v H'
def spCopy : Sp := fun vs H Q _ => ∃ (v : V), vs = [v] ∧ ((NoL H v ∧ Q v H) ∨ ∃ a xs, v = .ref a ∧ H a = some (.lst xs) ∧ ∀ b, H b = none → Q (.ref b) (upd H b (.lst xs)))
def spRefused : Sp := fun vs H Q _ => ∃ (p t : Addr) (c : Bool) (v0 v1 v2 : V) (o1 o2 : Option (List V)), vs = [.int (kI c), .ref t] ∧ H t = some (.tup [v0, v1, v2]) ∧ WK H v0 ∧ seqV H p v1 o1 ∧ seqV H p v2 o2 ∧ Bad c v0 o1 o2 ∧ ∀ H', Same H H' → Q (.bl true) H'
def spTold : Sp := fun vs H Q _ => ∃ (c : Bool) (total : Int) (B L : Addr) (ps : List Pr), vs = [.int (kI c), .int total, .ref B, .ref L] ∧ CaseAt H B L c ps ∧ Fits total ps ∧ ∀ H', Same H H' → Q (.bl true) H'
def datB (bs : List Bool) : PyData := .list (bs.map PyData.bool)
theorem dpB_all {K : PySem.W.Frag} {H : Hp} : ∀ bs : List Bool, DpAll K H (bs.map V.bl) (bs.map PyData.bool)
  | [] => .nil
  | n :: r => .cons (.bl n) (dpB_all r)
section
variable {P : Program} {w : World} {K : PySem.W.Frag} {mg : Str → Option Value} {base : Heap}
theorem ok_deal (T : Txt K mg) : Ok P w K mg base CX0 "_law_deal" s_deal 6 ["_law_kind", "_law_total", "_law_bounds", "_law_weights"] spDeal := by
  have O_p_dealt := ok_dealt (P := P) (w := w) (base := base) T
  have O_p_levelled := ok_levelled (P := P) (w := w) (base := base) T
  refine T.h_deal.ok sc_deal (fun vs H Q E h => ?_) (fun f cdv A outer s H vs Q E hr h => ?_)
  · obtain ⟨_, _, _, _, _, rfl, _⟩ := h; rfl
  obtain ⟨c, total, B, L, ps, rfl, ca, ft, q⟩ := h
  refine ⟨_, (pss_cons (ps_if (pt_cmpR op_eq (pv 0) pe_int (nomark _))
      (pss_one (ps_ret (callO O_p_dealt (hr.mono (by decide)) (by rfl) (pa_cons (pv 1) (pa_cons (pv 2) (pa_cons (pv 3) pa_nil))))))
      pss_nil)
      (pss_one (ps_ret (callO O_p_levelled (hr.mono (by decide)) (by rfl) (pa_cons (pv 1) (pa_cons (pv 2) (pa_cons (pv 3) pa_nil))))))), ?_⟩
  cases c with
  | true =>
    refine ⟨_, rfl, rfl, true, kz_t, iteT ?_⟩
    exact ⟨_, rfl, _, rfl, _, rfl, total, B, L, ps, rfl, ca.eB, ca.eL, ft, fun t p lvv lv parts H' nt np dl et el ep sm => q t p lv parts H' nt np dl ⟨⟨lvv, et, el⟩, ep⟩ sm⟩
  | false =>
    refine ⟨_, rfl, rfl, false, kz_f, iteF ?_⟩
    exact ⟨_, rfl, _, rfl, _, rfl, total, B, L, ps, rfl, ca.eB, ca.eL, ca.kn rfl, ft, fun t p lvv lv parts H' nt np dl et el ep sm => q t p lv parts H' nt np dl ⟨⟨lvv, et, el⟩, ep⟩ sm⟩
theorem okX_deal (T : Txt K mg) : Ok P w K mg base (L2.CX P w) "_law_deal" s_deal 6 ["_law_kind", "_law_total", "_law_bounds", "_law_weights"] (spDealX mg) := by
  have O_X_p_dealt := okX_dealt (P := P) (w := w) (base := base) T
  have O_X_p_levelled := okX_levelled (P := P) (w := w) (base := base) T
  refine T.h_deal.okX sc_deal (fun vs H Q E h => ?_) (fun f cdv A outer s H vs Q E hr h => ?_)
  · obtain ⟨_, _, _, _, _, _, _, rfl, _⟩ := h; rfl
  obtain ⟨p, c, v0, v1, v2, o1, o2, rfl, w0, s1, s2, bad, e⟩ := h
  refine ⟨_, (pss_cons (ps_if (pt_cmpR op_eq (pv 0) pe_int (nomark _))
      (pss_one (ps_ret (callX O_X_p_dealt (hr.mono (by decide)) (by rfl) (takes_of rfl rfl rfl rfl) (pa_cons (pv 1) (pa_cons (pv 2) (pa_cons (pv 3) pa_nil))))))
      pss_nil)
      (pss_one (ps_ret (callX O_X_p_levelled (hr.mono (by decide)) (by rfl) (takes_of rfl rfl rfl rfl) (pa_cons (pv 1) (pa_cons (pv 2) (pa_cons (pv 3) pa_nil))))))), ?_⟩
  cases c with
  | true =>
    refine ⟨_, rfl, rfl, true, kz_t, iteT ?_⟩
    exact ⟨_, rfl, _, rfl, _, rfl, p, v0, v1, v2, o1, o2, rfl, w0, s1, s2, bad, e⟩
  | false =>
    refine ⟨_, rfl, rfl, false, kz_f, iteF ?_⟩
    exact ⟨_, rfl, _, rfl, _, rfl, p, v0, v1, v2, o1, o2, rfl, w0, s1, s2, bad, e⟩
theorem ok_numbers (T : Txt K mg) : Ok P w K mg base CX0 "_law_numbers" s_numbers 3 ["_law_source_here", "_law_many"] spNumbers := by
  have O_next := ok_next (P := P) (w := w) (base := base) T
  refine T.h_numbers.ok sc_numbers (fun vs H Q E h => ?_) (fun f cdv A outer s H vs Q E hr h => ?_)
  · obtain ⟨_, _, rfl, _⟩ := h; rfl
  obtain ⟨p, n, rfl, hs, n0, n1, q⟩ := h
  refine ⟨_, (pss_cons (ps_set (i := 2) sc_numbers.nd rfl (by first | exact Or.inl rfl | exact Or.inr rfl) (pe_ix ix_list (pe_lst (pa_cons pe_int (pa_cons pe_int (pa_cons (pe_op op_sub (pe_op op_pow pe_int pe_int) pe_int) pa_nil)))) (callO O_next (hr.mono (by decide)) (by rfl) (pa_cons (pv 0) (pa_cons pe_int pa_nil))) (fun _ _ => rfl)))
      (pss_one (ps_ret (pe_lc (own := [("_law_k", 3)]) (by rfl) sc_numbers.nd (pi_range1 (by rfl) T.m_range (pa_cons (pv 1) pa_nil)) (blkOk_by (own := [("_law_k", 3)]) (N := n_numbers) (sc := defScope s_numbers) (by decide +kernel)) (fun _ _ _ _ _ => (pg_name (i := 3) sc_numbers.nd rfl (by first | exact Or.inl rfl | exact Or.inr rfl))) (fun _ _ _ _ _ => pts_nil) (fun _ _ _ _ _ => (callO O_next (hr.mono (by decide)) (by rfl) (pa_cons (pv 0) (pa_cons (pv 2) pa_nil)))))))), ?_⟩
  refine ⟨_, _, rfl, rfl, ⟨by decide, by decide, by decide⟩, _, _, rfl, rfl, (by show 3 ≤ sizeLine; decide), fun l3 n3 => ?_⟩
  refine ⟨_, rfl, p, 3, rfl, by decide, by decide, hs.keep n3, fun r3 H3 a3 b3 s3 o3 => ?_⟩
  obtain ⟨far, ha3, hm3⟩ := pick (ns := [2, 30, 10 ^ (12 : Int).toNat - 1]) a3 b3 (fun m => 0 < m ∧ m ≤ 1000000000000) (by decide)
  refine ⟨l3, _, _, _, rfl, rfl, .of (o3 _ _ upd_same (hs.ne_new n3)), ha3, ?_⟩
  refine ⟨_, rfl, _, rfl, by omega, by omega, fun L nL => lcD (walk_range (lo := 0) (n := n.toNat)) (p := p) V.int (fun i x => x = V.int (0 + (i : Int))) (fun _ _ _ _ h => h) (fun _ r => 0 ≤ r ∧ r ≤ 1000000000000) s3 nL (by omega) (fun _ _ => trivial) ?_ ?_⟩
  · rintro i x H' A' hi rfl sH o kA
    exact ⟨rfl, _, rfl, _, rfl, p, far, rfl, hm3.1, by omega, sH, fun r H'' r0 r1 s'' o'' => kA r H'' ⟨by omega, by omega⟩ s'' o''⟩
  intro H4 ls hLp llen lR eL s4 o4
  refine q L ls H4 hLp (by omega) (fun x hx => ?_) eL s4 (((off_new n3).trans o3).trans o4)
  obtain ⟨i, hi⟩ := List.getElem?_of_mem hx
  exact lR i x hi
theorem ok_no_number (T : Txt K mg) : Ok P w K mg base CX0 "_law_no_number" s_no_number 3 ["_law_source_here", "_law_kind"] spNoNumber := by
  have O_next := ok_next (P := P) (w := w) (base := base) T
  refine T.h_no_number.ok sc_no_number (fun vs H Q E h => ?_) (fun f cdv A outer s H vs Q E hr h => ?_)
  · obtain ⟨_, _, rfl, _⟩ := h; rfl
  obtain ⟨p, k, rfl, hs, q⟩ := h
  refine ⟨_, (pss_cons (ps_set (i := 2) sc_no_number.nd rfl (by first | exact Or.inl rfl | exact Or.inr rfl) (pe_lst (pa_cons pe_bl (pa_cons pe_bl (pa_cons (pe_op op_sub pe_int pe_int) (pa_cons (pe_op op_sub pe_int (pe_op op_pow pe_int pe_int)) (pa_cons pe_str (pa_cons (pe_lst (pa_cons pe_int pa_nil)) (pa_cons (pe_tup (pa_cons pe_int pa_nil)) (pa_cons pe_dnewK (pa_cons pe_non pa_nil)))))))))))
      (pss_one (ps_ret (pe_ix ix_list (pv 2) (callO O_next (hr.mono (by decide)) (by rfl) (pa_cons (pv 0) (pa_cons (pe_op op_sub pe_int (pe_callTy call_int1 (by rfl) T.m_int (by decide +kernel) (pa_cons (pe_cmpR op_eq (pv 1) pe_int (nomark _)) pa_nil))) pa_nil))) (fun _ _ => rfl))))), ?_⟩
  refine ⟨_, _, rfl, rfl, _, _, rfl, rfl, ⟨by decide, by decide, by decide⟩, _, _, rfl, rfl, (by show 1 ≤ sizeLine; decide), fun l1 n1 => ⟨(by show 1 ≤ sizeLine; decide), fun t1 nt1 => fun d1 nd1 => ⟨(by show 9 ≤ sizeLine; decide), fun S nS => ?_⟩⟩⟩
  have z1 := same_upd (o := .lst [.int 1]) n1
  have z2 := same_upd (o := .tup [.int 1]) nt1
  have z3 := same_upd (o := .dK []) nd1
  have z4 := same_upd (o := .lst [.bl true, .bl false, .int (0 - 1), .int (1 - 10 ^ (12 : Int).toNat), .str (Str.ofString "1"), .ref l1, .ref t1, .ref d1, .non]) nS
  have el : (upd (upd (upd (upd H l1 (.lst [.int 1])) t1 (.tup [.int 1])) d1 (.dK [])) S (.lst [.bl true, .bl false, .int (0 - 1), .int (1 - 10 ^ (12 : Int).toNat), .str (Str.ofString "1"), .ref l1, .ref t1, .ref d1, .non])) l1 = some (.lst [.int 1]) := z4 _ _ (z3 _ _ (z2 _ _ upd_same))
  have et : (upd (upd (upd (upd H l1 (.lst [.int 1])) t1 (.tup [.int 1])) d1 (.dK [])) S (.lst [.bl true, .bl false, .int (0 - 1), .int (1 - 10 ^ (12 : Int).toNat), .str (Str.ofString "1"), .ref l1, .ref t1, .ref d1, .non])) t1 = some (.tup [.int 1]) := z4 _ _ (z3 _ _ upd_same)
  have ed : (upd (upd (upd (upd H l1 (.lst [.int 1])) t1 (.tup [.int 1])) d1 (.dK [])) S (.lst [.bl true, .bl false, .int (0 - 1), .int (1 - 10 ^ (12 : Int).toNat), .str (Str.ofString "1"), .ref l1, .ref t1, .ref d1, .non])) d1 = some (.dK []) := z4 _ _ upd_same
  have eS : (upd (upd (upd (upd H l1 (.lst [.int 1])) t1 (.tup [.int 1])) d1 (.dK [])) S (.lst [.bl true, .bl false, .int (0 - 1), .int (1 - 10 ^ (12 : Int).toNat), .str (Str.ofString "1"), .ref l1, .ref t1, .ref d1, .non])) S = some (.lst [.bl true, .bl false, .int (0 - 1), .int (1 - 10 ^ (12 : Int).toNat), .str (Str.ofString "1"), .ref l1, .ref t1, .ref d1, .non]) := upd_same
  have s4 := ((z1.trans z2).trans z3).trans z4
  generalize (upd (upd (upd (upd H l1 (.lst [.int 1])) t1 (.tup [.int 1])) d1 (.dK [])) S (.lst [.bl true, .bl false, .int (0 - 1), .int (1 - 10 ^ (12 : Int).toNat), .str (Str.ofString "1"), .ref l1, .ref t1, .ref d1, .non])) = H1 at el et ed eS s4 ⊢
  have src1 := hs.same s4
  have nSp : S ≠ p := fun z => by
    obtain ⟨x, y, w, e⟩ := src1
    rw [← z, eS] at e
    cases e
  refine ⟨_, rfl, _, rfl, _, rfl, rfl, .inr ⟨_, rfl, _, _, rfl, rfl, ?_⟩⟩
  have hm : ∃ m : Int, 9 - (if decide (V.int k = V.int 0) = true then (1 : Int) else 0) = m ∧ 0 < m ∧ m ≤ 9 ∧ (k = 0 → m = 8) := by
    by_cases hk : k = 0
    · refine ⟨8, ?_, by omega, by omega, fun _ => rfl⟩
      rw [hk, decide_eq_true rfl]
      rfl
    · refine ⟨9, ?_, by omega, by omega, fun z => absurd z hk⟩
      rw [decide_eq_false fun z => hk (V.int.inj z)]
      rfl
  obtain ⟨m, em, m0, m9, mk⟩ := hm
  refine ⟨p, m, by rw [← em]; rfl, m0, by omega, src1, fun r H2 r0 r1 s2 o2 => ?_⟩
  have eS2 := o2 _ _ eS nSp
  have fin : ∀ v, WK H1 v → cntV v = false → (k = 0 → v ≠ .non) → Q v H2 := fun v h1 h2 h3 => q v H2 (h1.off src1 s2 o2) h2 h3 s2 ((Off.of s4).trans o2)
  rcases (by omega : r = 0 ∨ r = 1 ∨ r = 2 ∨ r = 3 ∨ r = 4 ∨ r = 5 ∨ r = 6 ∨ r = 7 ∨ r = 8) with rfl | rfl | rfl | rfl | rfl | rfl | rfl | rfl | rfl
  · exact ⟨S, _, 0, _, rfl, rfl, .of eS2, atI_nat (j := 0) rfl, fin _ (.inr (.inl ⟨_, rfl⟩)) rfl (fun _ z => by cases z)⟩
  · exact ⟨S, _, 1, _, rfl, rfl, .of eS2, atI_nat (j := 1) rfl, fin _ (.inr (.inl ⟨_, rfl⟩)) rfl (fun _ z => by cases z)⟩
  · exact ⟨S, _, 2, _, rfl, rfl, .of eS2, atI_nat (j := 2) rfl, fin _ (.inl ⟨_, rfl⟩) (by decide) (fun _ z => by cases z)⟩
  · exact ⟨S, _, 3, _, rfl, rfl, .of eS2, atI_nat (j := 3) rfl, fin _ (.inl ⟨_, rfl⟩) (by decide) (fun _ z => by cases z)⟩
  · exact ⟨S, _, 4, _, rfl, rfl, .of eS2, atI_nat (j := 4) rfl, fin _ (.inr (.inr (.str _))) rfl (fun _ z => by cases z)⟩
  · exact ⟨S, _, 5, _, rfl, rfl, .of eS2, atI_nat (j := 5) rfl, fin _ (.inr (.inr (.lst el (fun x hx => by rw [List.mem_singleton.mp hx]; exact .inl rfl)))) rfl (fun _ z => by cases z)⟩
  · exact ⟨S, _, 6, _, rfl, rfl, .of eS2, atI_nat (j := 6) rfl, fin _ (.inr (.inr (.tup et))) rfl (fun _ z => by cases z)⟩
  · exact ⟨S, _, 7, _, rfl, rfl, .of eS2, atI_nat (j := 7) rfl, fin _ (.inr (.inr (.dK ed))) rfl (fun _ z => by cases z)⟩
  · exact ⟨S, _, 8, _, rfl, rfl, .of eS2, atI_nat (j := 8) rfl, fin _ (.inr (.inr .non)) rfl (fun hk => by have := mk hk; omega)⟩
theorem ok_copy (T : Txt K mg) : Ok P w K mg base CX0 "_law_copy" s_copy 1 ["_law_thing"] spCopy := by
  refine T.h_copy.ok sc_copy (fun vs H Q E h => ?_) (fun f cdv A outer s H vs Q E hr h => ?_)
  · obtain ⟨_, rfl, _⟩ := h; rfl
  obtain ⟨v, rfl, h⟩ := h
  refine ⟨_, (pss_cons (ps_if (pt_val (pe_callB call_isi (by rfl) T.m_isinstance (by decide +kernel) (pa_cons (pv 0) (pa_cons (pe_bltn (v := .ty "list") (by rfl) T.m_list (by decide +kernel) rfl) pa_nil))))
      (pss_one (ps_ret (pe_callTy call_list_of (by rfl) T.m_list (by decide +kernel) (pa_cons (pv 0) pa_nil))))
      pss_nil)
      (pss_one (ps_ret (pv 0)))), ?_⟩
  rcases h with ⟨nl, q⟩ | ⟨a, xs, rfl, ha, q⟩
  · obtain ⟨t, ty, ek⟩ := nl.ty (K := K)
    exact ⟨_, rfl, _, _, _, _, false, rfl, .ty _, ty, kit_ty ek, false, rfl, iteF ⟨_, rfl, q⟩⟩
  · exact ⟨_, rfl, _, _, _, _, true, rfl, .ty _, .base (.lst ha), kit_ty (by decide +kernel), true, rfl, iteT ⟨_, rfl, a, _, rfl, .inl (.of ha), fun b nb => q b nb⟩⟩
theorem ok_told (T : Txt K mg) : Ok P w K mg base CX0 "_law_told" s_told 7 ["_law_kind", "_law_total", "_law_bounds", "_law_weights"] spTold := by
  have O_deal := ok_deal (P := P) (w := w) (base := base) T
  refine T.h_told.ok sc_told (fun vs H Q E h => ?_) (fun f cdv A outer s H vs Q E hr h => ?_)
  · obtain ⟨_, _, _, _, _, rfl, _⟩ := h; rfl
  obtain ⟨c, total, B, L, ps, rfl, ca, ft, q⟩ := h
  refine ⟨_, (pss_cons (ps_set (i := 4) sc_told.nd rfl (by first | exact Or.inl rfl | exact Or.inr rfl) (callO O_deal (hr.mono (by decide)) (by rfl) (pa_cons (pv 0) (pa_cons (pv 1) (pa_cons (pe_callTy call_list_of (by rfl) T.m_list (by decide +kernel) (pa_cons (pv 2) pa_nil)) (pa_cons (pe_callTy call_list_of (by rfl) T.m_list (by decide +kernel) (pa_cons (pv 3) pa_nil)) pa_nil))))))
      (pss_cons (ps_if (PW.pt (pw_or (pt_not (pt_val (pe_callB call_isi (by rfl) T.m_isinstance (by decide +kernel) (pa_cons (pv 4) (pa_cons (pe_bltn (v := .ty "tuple") (by rfl) T.m_tuple (by decide +kernel) rfl) pa_nil))))) (pw_or (pt_cmpR op_ne (pe_callB call_len (by rfl) T.m_len (by decide +kernel) (pa_cons (pv 4) pa_nil)) pe_int (nomark _)) (pw_or1 (pt_not (pt_val (pe_callB call_isi (by rfl) T.m_isinstance (by decide +kernel) (pa_cons (pe_ix ix_tup (pv 4) pe_int (fun _ _ => rfl)) (pa_cons (pe_bltn (v := .ty "list") (by rfl) T.m_list (by decide +kernel) rfl) pa_nil)))))))))
      (pss_one (ps_ret pe_bl))
      pss_nil)
      (pss_one (ps_ret (pe_cmpR op_eq (pe_callB call_len (by rfl) T.m_len (by decide +kernel) (pa_cons (pe_ix ix_tup (pv 4) pe_int (fun _ _ => rfl)) pa_nil)) (pe_callB call_len (by rfl) T.m_len (by decide +kernel) (pa_cons (pv 2) pa_nil)) (nomark _)))))), ?_⟩
  refine ⟨_, rfl, _, rfl, _, rfl, B, _, rfl, .inl (.of ca.eB), fun c1 nc1 => ⟨_, rfl, L, _, rfl, .inl (.of (same_upd nc1 _ _ ca.eL)), fun c2 nc2 => ?_⟩⟩
  have sc1 := same_upd (o := .lst (ps.map fun x => ov x.1)) nc1
  have sc2 := same_upd (o := .lst (ps.map fun x => V.int x.2)) nc2
  have s2 := sc1.trans sc2
  refine ⟨c, total, c1, c2, ps, rfl, ⟨sc2 _ _ upd_same, upd_same, ca.kn⟩, ft, fun t q1 lv parts H3 nt nq res td s3 => ?_⟩
  obtain ⟨lvv, et, el⟩ := td.ex
  have s03 := s2.trans s3
  refine ⟨_, rfl, _, _, _, _, true, rfl, .ty _, .base (.tup et), kit_ty (by decide +kernel), true, rfl, iteF ?_⟩
  refine ⟨_, rfl, _, _, rfl, .inr ⟨_, .of et, rfl⟩, rfl, false, rfl, iteF ?_⟩
  refine ⟨_, rfl, t, _, _, _, rfl, rfl, .of et, atI_nat (j := 1) rfl, _, _, _, _, true, rfl, .ty _, .base (.lst td.eq), kit_ty (by decide +kernel), true, rfl, iteF ?_⟩
  refine ⟨_, rfl, t, _, _, _, rfl, rfl, .of et, atI_nat (j := 1) rfl, _, _, rfl, .inl ⟨_, .of td.eq, rfl⟩, _, rfl, _, _, rfl, .inl ⟨_, .of (s03 _ _ ca.eB), rfl⟩, rfl, ?_⟩
  rw [List.length_map, List.length_map, res.len, decide_eq_true rfl]
  exact q _ s03
theorem ok_refused (T : Txt K mg) : Ok P w K mg base CX0 "_law_refused" s_refused 7 ["_law_kind", "_law_handed"] spRefused := by
  have O_X_deal := okX_deal (P := P) (w := w) (base := base) T
  refine T.h_refused.ok sc_refused (fun vs H Q E h => ?_) (fun f cdv A outer s H vs Q E hr h => ?_)
  · obtain ⟨_, _, _, _, _, _, _, _, rfl, _⟩ := h; rfl
  obtain ⟨p, t, c, v0, v1, v2, o1, o2, rfl, et, w0, s1, s2, bad, q⟩ := h
  refine ⟨_, (pss_cons (ps_try_as (i := 2) (tb := fun W => (tDrop (tCallS _ (WE W) (tCons (tVar 0) (tCons (tOp (rIxT K) (tVar 1) _) (tCons (tOp (rIxT K) (tVar 1) _) (tCons (tOp (rIxT K) (tVar 1) _) tNil))))))) (ts := fun a cls d => (tSeq (tAsg (tLst (tCons (tCB (rIsE2 K (clsA mg "NoNumber") a cls d) (tCons (tVar 2) (tCons _ tNil))) (tCons (tCB (rIsE2 K (clsA mg "NoNumber") a cls d) (tCons (tVar 2) (tCons _ tNil))) (tCons (tCB (rIsE2 K (clsA mg "NoNumber") a cls d) (tCons (tVar 2) (tCons _ tNil))) (tCons (tCB (rIsE2 K (clsA mg "NoNumber") a cls d) (tCons (tVar 2) (tCons _ tNil))) tNil))))) (gName 3)) (tSeq (tAsg (tOp _ (tVar 3) (tLst (tCons (tCB (rIsE2 K (clsA mg "NoNumber") a cls d) (tCons (tVar 2) (tCons _ tNil))) (tCons (tCB (rIsE2 K (clsA mg "NoNumber") a cls d) (tCons (tVar 2) (tCons _ tNil))) (tCons (tCB (rIsE2 K (clsA mg "NoNumber") a cls d) (tCons (tVar 2) (tCons _ tNil))) (tCons (tCB (rIsE2 K (clsA mg "NoNumber") a cls d) (tCons (tVar 2) (tCons _ tNil))) tNil)))))) (gName 3)) (tRet (tAndV (tCB (rIsE2 K (clsA mg "NoNumber") a cls d) (tCons (tVar 2) (tCons _ tNil))) (tAndV (tCB (rIsE2 K (clsA mg "NoNumber") a cls d) (tCons (tVar 2) (tCons _ tNil))) (tOp (rEqD K) (tVar 3) (tOp _ (tLst (tCons _ tNil)) _)))))))) (Wout := fun _ _ _ _ => False) rfl rfl sc_refused.nd rfl rfl ⟨rfl, by decide, .inl T.c_NoNumber_NestError.g⟩ takes0 (fun W pn xe tk _ => (pss_one (ps_expr (callX O_X_deal (hr.mono (by decide)) (by rfl) tk (pa_cons (pv 0) (pa_cons (pe_ix ix_tup (pv 1) pe_int (fun _ _ => rfl)) (pa_cons (pe_ix ix_tup (pv 1) pe_int (fun _ _ => rfl)) (pa_cons (pe_ix ix_tup (pv 1) pe_int (fun _ _ => rfl)) pa_nil))))))))
      (fun a oe cls d pn hz hf => (pss_cons (ps_set (i := 3) sc_refused.nd rfl (by first | exact Or.inl rfl | exact Or.inr rfl) (pe_lst (pa_cons (pe_callB (call_isE2 T.e_NoNumber.e hz hf) (by rfl) T.m_isinstance (by decide +kernel) (pa_cons (pv 2) (pa_cons (pe_glob (v := .ref (clsA mg "NoText")) (by rfl) T.kt_NoNumber_NoText.g rfl) pa_nil))) (pa_cons (pe_callB (call_isE2 T.e_NoNumber.e hz hf) (by rfl) T.m_isinstance (by decide +kernel) (pa_cons (pv 2) (pa_cons (pe_glob (v := .ref (clsA mg "NoName")) (by rfl) T.kt_NoNumber_NoName.g rfl) pa_nil))) (pa_cons (pe_callB (call_isE2 T.e_NoNumber.e hz hf) (by rfl) T.m_isinstance (by decide +kernel) (pa_cons (pv 2) (pa_cons (pe_glob (v := .ref (clsA mg "NoStyle")) (by rfl) T.kt_NoNumber_NoStyle.g rfl) pa_nil))) (pa_cons (pe_callB (call_isE2 T.e_NoNumber.e hz hf) (by rfl) T.m_isinstance (by decide +kernel) (pa_cons (pv 2) (pa_cons (pe_glob (v := .ref (clsA mg "NoTrack")) (by rfl) T.kt_NoNumber_NoTrack.g rfl) pa_nil))) pa_nil))))))
      (pss_cons (ps_set (i := 3) sc_refused.nd rfl (by first | exact Or.inl rfl | exact Or.inr rfl) (pe_op op_cat (pv 3) (pe_lst (pa_cons (pe_callB (call_isE2 T.e_NoNumber.e hz hf) (by rfl) T.m_isinstance (by decide +kernel) (pa_cons (pv 2) (pa_cons (pe_glob (v := .ref (clsA mg "NoAsk")) (by rfl) T.kt_NoNumber_NoAsk.g rfl) pa_nil))) (pa_cons (pe_callB (call_isE2 T.e_NoNumber.e hz hf) (by rfl) T.m_isinstance (by decide +kernel) (pa_cons (pv 2) (pa_cons (pe_glob (v := .ref (clsA mg "NoTree")) (by rfl) T.kt_NoNumber_NoTree.g rfl) pa_nil))) (pa_cons (pe_callB (call_isE2 T.e_NoNumber.e hz hf) (by rfl) T.m_isinstance (by decide +kernel) (pa_cons (pv 2) (pa_cons (pe_glob (v := .ref (clsA mg "NoPlace")) (by rfl) T.kt_NoNumber_NoPlace.g rfl) pa_nil))) (pa_cons (pe_callB (call_isE2 T.e_NoNumber.e hz hf) (by rfl) T.m_isinstance (by decide +kernel) (pa_cons (pv 2) (pa_cons (pe_glob (v := .ref (clsA mg "NoBox")) (by rfl) T.kt_NoNumber_NoBox.g rfl) pa_nil))) pa_nil)))))))
      (pss_one (ps_ret (pe_and (pe_callB (call_isE2 T.e_NoNumber.e hz hf) (by rfl) T.m_isinstance (by decide +kernel) (pa_cons (pv 2) (pa_cons (pe_glob (v := .ref (clsA mg "NoNumber")) (by rfl) T.e_NoNumber.g rfl) pa_nil))) (pe_and (pe_callB (call_isE2 T.e_NoNumber.e hz hf) (by rfl) T.m_isinstance (by decide +kernel) (pa_cons (pv 2) (pa_cons (pe_bltn (v := .ty "ValueError") (by rfl) T.m_ValueError (by decide +kernel) rfl) pa_nil))) (pe_one (pe_cmpR (op_eqD hr.units) (pv 3) (pe_op op_rep (pe_lst (pa_cons pe_bl pa_nil)) pe_int) (nomark _)))))))))))
      (pss_one (ps_ret pe_bl))), ?_⟩
  refine ⟨_, rfl, _, rfl, t, _, _, _, rfl, rfl, .of et, atI_nat (j := 0) rfl, _, rfl, t, _, _, _, rfl, rfl, .of et, atI_nat (j := 1) rfl, _, rfl, t, _, _, _, rfl, rfl, .of et, atI_nat (j := 2) rfl, p, c, v0, v1, v2, o1, o2, rfl, w0, s1, s2, bad, fun H1 sm => ?_⟩
  refine ⟨true, T.c_NoNumber_NestError.m, fun _ a na => ?_, fun z => nomatch z⟩
  refine ⟨_, rfl, rfl, rfl, .ref (clsA mg "NoText"), .ref (clsA mg "NoText"), false, rfl, (fun u h => h), T.kt_NoNumber_NoText.m, _, rfl, rfl, rfl, .ref (clsA mg "NoName"), .ref (clsA mg "NoName"), false, rfl, (fun u h => h), T.kt_NoNumber_NoName.m, _, rfl, rfl, rfl, .ref (clsA mg "NoStyle"), .ref (clsA mg "NoStyle"), false, rfl, (fun u h => h), T.kt_NoNumber_NoStyle.m, _, rfl, rfl, rfl, .ref (clsA mg "NoTrack"), .ref (clsA mg "NoTrack"), false, rfl, (fun u h => h), T.kt_NoNumber_NoTrack.m, (by show 4 ≤ sizeLine; decide), fun l1 n1 => ?_⟩
  refine ⟨_, rfl, _, rfl, rfl, rfl, .ref (clsA mg "NoAsk"), .ref (clsA mg "NoAsk"), false, rfl, (fun u h => h), T.kt_NoNumber_NoAsk.m, _, rfl, rfl, rfl, .ref (clsA mg "NoTree"), .ref (clsA mg "NoTree"), false, rfl, (fun u h => h), T.kt_NoNumber_NoTree.m, _, rfl, rfl, rfl, .ref (clsA mg "NoPlace"), .ref (clsA mg "NoPlace"), false, rfl, (fun u h => h), T.kt_NoNumber_NoPlace.m, _, rfl, rfl, rfl, .ref (clsA mg "NoBox"), .ref (clsA mg "NoBox"), false, rfl, (fun u h => h), T.kt_NoNumber_NoBox.m, (by show 4 ≤ sizeLine; decide), fun l2 n2 => ?_⟩
  have y1 := same_upd (o := .lst [.bl false, .bl false, .bl false, .bl false]) n1
  have y2 := same_upd (o := .lst [.bl false, .bl false, .bl false, .bl false]) n2
  refine ⟨l1, l2, _, _, rfl, rfl, y2 _ _ upd_same, upd_same, (by show 8 ≤ sizeLine; decide), fun l3 n3 => ?_⟩
  have y3 := same_upd (o := .lst ([.bl false, .bl false, .bl false, .bl false] ++ [.bl false, .bl false, .bl false, .bl false])) n3
  refine ⟨_, rfl, rfl, rfl, .ref (clsA mg "NoNumber"), .ref (clsA mg "NoNumber"), true, rfl, (fun u h => h), T.kt_NoNumber_NoNumber.m, true, rfl, iteT ?_⟩
  refine ⟨_, rfl, rfl, rfl, .ty "ValueError", .type "ValueError", true, rfl, (fun u h => h), T.kv_NoNumber_ValueError, true, rfl, iteT ?_⟩
  refine ⟨_, rfl, (by show 1 ≤ sizeLine; decide), fun l4 n4 => ⟨l4, 8, _, rfl, rfl, upd_same, by decide, by decide, (by show 8 ≤ sizeLine; decide), fun l5 n5 => ?_⟩⟩
  have y4 := same_upd (o := .lst [.bl false]) n4
  have y5 := same_upd (o := .lst (List.replicate (8 : Int).toNat [V.bl false]).flatten) n5
  refine ⟨datB [false, false, false, false, false, false, false, false], datB [false, false, false, false, false, false, false, false], .lst (.of (y5 _ _ (y4 _ _ upd_same))) (dpB_all [false, false, false, false, false, false, false, false]), .lst (.of upd_same) (dpB_all [false, false, false, false, false, false, false, false]), rfl, rfl, ?_⟩
  exact q _ (sm.trans (((y1.trans y2).trans y3).trans (y4.trans y5)))
theorem ok_no_list2 (T : Txt K mg) : Ok P w K mg base CX0 "_law_no_list" s_no_list 3 ["_law_source_here", "_law_row"] spNoListV := by
  have O_next := ok_next (P := P) (w := w) (base := base) T
  refine T.h_no_list.ok sc_no_list (fun vs H Q E h => ?_) (fun f cdv A outer s H vs Q E hr h => ?_)
  · obtain ⟨_, _, _, rfl, _⟩ := h; rfl
  obtain ⟨p, row, xs, rfl, hs, hrp, er, q⟩ := h
  refine ⟨_, (pss_one (ps_ret (pe_ix ix_list (pe_lst (pa_cons pe_non (pa_cons (pe_callTy call_tuple_of (by rfl) T.m_tuple (by decide +kernel) (pa_cons (pv 1) pa_nil)) (pa_cons pe_str (pa_cons pe_dnewK (pa_cons (pe_callB call_len (by rfl) T.m_len (by decide +kernel) (pa_cons (pv 1) pa_nil)) (pa_cons pe_bl (pa_cons (pe_tup pa_nil) (pa_cons pe_str (pa_cons (pe_disp (pps_cons pe_int pe_int pps_nil) (by rfl) (by rfl) (fun z => by cases z) (by decide)) pa_nil)))))))))) (callO O_next (hr.mono (by decide)) (by rfl) (pa_cons (pv 0) (pa_cons pe_int pa_nil))) (fun _ _ => rfl)))), ?_⟩
  refine ⟨_, rfl, row, xs, rfl, .inl ⟨.of er, fun t1 nt1 => fun d1 nd1 => ?_⟩⟩
  have z1 := same_upd (o := .tup xs) nt1
  have e1 : (upd H t1 (.tup xs)) t1 = some (.tup xs) := upd_same
  generalize upd H t1 (.tup xs) = H1 at z1 e1 nd1 ⊢
  have z2 := same_upd (o := .dK []) nd1
  have e2 : (upd H1 d1 (.dK [])) d1 = some (.dK []) := upd_same
  generalize upd H1 d1 (.dK []) = H2 at z2 e2 ⊢
  refine ⟨_, rfl, _, _, rfl, .inl ⟨_, .of (z2 _ _ (z1 _ _ er)), rfl⟩, (by show 0 ≤ sizeLine; decide), fun t2 nt2 => fun d2 nd2 => ⟨upd_same, [(.inl 0, .int 1)], rfl, by decide, ?_⟩⟩
  rw [upd_upd]
  have z3 := same_upd (o := .tup []) nt2
  have e3 : (upd H2 t2 (.tup [])) t2 = some (.tup []) := upd_same
  generalize upd H2 t2 (.tup []) = H3 at z3 e3 nd2 ⊢
  have z4 := same_upd (o := .dK (mergeK [] [(Sum.inl 0, .int 1)])) nd2
  have e4 : (upd H3 d2 (.dK (mergeK [] [(Sum.inl 0, .int 1)]))) d2 = some (.dK (mergeK [] [(Sum.inl 0, .int 1)])) := upd_same
  generalize upd H3 d2 (.dK (mergeK [] [(Sum.inl 0, .int 1)])) = H4 at z4 e4 ⊢
  refine ⟨(by show 9 ≤ sizeLine; decide), fun S nS => ?_⟩
  have z5 := same_upd (o := .lst [.non, .ref t1, .str (Str.ofString "11"), .ref d1, .int (xs.length : Nat), .bl true, .ref t2, .str (Str.ofString ""), .ref d2]) nS
  have eS : (upd H4 S (.lst [.non, .ref t1, .str (Str.ofString "11"), .ref d1, .int (xs.length : Nat), .bl true, .ref t2, .str (Str.ofString ""), .ref d2])) S = some (.lst [.non, .ref t1, .str (Str.ofString "11"), .ref d1, .int (xs.length : Nat), .bl true, .ref t2, .str (Str.ofString ""), .ref d2]) := upd_same
  have sS := (((z1.trans z2).trans z3).trans z4).trans z5
  have f1 := z5 _ _ (z4 _ _ (z3 _ _ (z2 _ _ e1)))
  have f2 := z5 _ _ (z4 _ _ (z3 _ _ e2))
  have f3 := z5 _ _ (z4 _ _ e3)
  have f4 := z5 _ _ e4
  generalize upd H4 S (.lst [.non, .ref t1, .str (Str.ofString "11"), .ref d1, .int (xs.length : Nat), .bl true, .ref t2, .str (Str.ofString ""), .ref d2]) = H5 at z5 eS sS f1 f2 f3 f4 ⊢
  have src5 := hs.same sS
  have nSp : S ≠ p := fun z => by
    obtain ⟨x, y, w, e⟩ := src5
    rw [← z, eS] at e
    cases e
  refine ⟨_, rfl, p, 9, rfl, by decide, by decide, src5, fun r H6 r0 r1 s6 o6 => ?_⟩
  have eS6 := o6 _ _ eS nSp
  have fin : ∀ v, NoL H5 v → Q v H6 := fun v h => q v H6 (h.off src5 o6) s6 ((Off.of sS).trans o6)
  rcases (by omega : r = 0 ∨ r = 1 ∨ r = 2 ∨ r = 3 ∨ r = 4 ∨ r = 5 ∨ r = 6 ∨ r = 7 ∨ r = 8) with rfl | rfl | rfl | rfl | rfl | rfl | rfl | rfl | rfl
  · exact ⟨S, _, 0, _, rfl, rfl, .of eS6, atI_nat (j := 0) rfl, fin _ .non⟩
  · exact ⟨S, _, 1, _, rfl, rfl, .of eS6, atI_nat (j := 1) rfl, fin _ (.tup f1)⟩
  · exact ⟨S, _, 2, _, rfl, rfl, .of eS6, atI_nat (j := 2) rfl, fin _ (.str _)⟩
  · exact ⟨S, _, 3, _, rfl, rfl, .of eS6, atI_nat (j := 3) rfl, fin _ (.dK f2)⟩
  · exact ⟨S, _, 4, _, rfl, rfl, .of eS6, atI_nat (j := 4) rfl, fin _ (.int _)⟩
  · exact ⟨S, _, 5, _, rfl, rfl, .of eS6, atI_nat (j := 5) rfl, fin _ (.bl _)⟩
  · exact ⟨S, _, 6, _, rfl, rfl, .of eS6, atI_nat (j := 6) rfl, fin _ (.tup f3)⟩
  · exact ⟨S, _, 7, _, rfl, rfl, .of eS6, atI_nat (j := 7) rfl, fin _ (.str _)⟩
  · exact ⟨S, _, 8, _, rfl, rfl, .of eS6, atI_nat (j := 8) rfl, fin _ (.dK f4)⟩
end

/-! ### spoilt -/
structure St3 (H : Hp) (p : Addr) (v0 v1 v2 : V) (o1 o2 : Option (List V)) : Prop where
  w0 : WK H v0
  s1 : seqV H p v1 o1
  s2 : seqV H p v2 o2
  n1 : ∀ xs, o1 = some xs → xs ≠ []
theorem St3.same {H H' : Hp} {p : Addr} {v0 v1 v2 : V} {o1 o2 : Option (List V)} (h : St3 H p v0 v1 v2 o1 o2) (s : Same H H') : St3 H' p v0 v1 v2 o1 o2 := ⟨h.w0.same s, h.s1.same s, h.s2.same s, h.n1⟩
theorem St3.off {H H' : Hp} {p : Addr} {v0 v1 v2 : V} {o1 o2 : Option (List V)} (h : St3 H p v0 v1 v2 o1 o2) (hs : Src H p) (hs' : Src H' p) (f : Off p H H') : St3 H' p v0 v1 v2 o1 o2 := ⟨h.w0.off hs hs' f, h.s1.off hs hs' f, h.s2.off hs hs' f, h.n1⟩
def spSpoilt : Sp := fun vs H Q _ => ∃ (p t : Addr) (c : Bool) (way : Int) (v0 v1 v2 : V) (o1 o2 : Option (List V)), vs = [.ref p, .int (kI c), .ref t, .int way] ∧ Src H p ∧ 0 ≤ way ∧ way ≤ 5 ∧ H t = some (.tup [v0, v1, v2]) ∧ St3 H p v0 v1 v2 o1 o2 ∧ (Bad c v0 o1 o2 ∨ (∃ xs ys, o1 = some xs ∧ o2 = some ys)) ∧
  (way = 4 → o2 ≠ some []) ∧ (way = 5 → ∃ xs ys, o1 = some xs ∧ o2 = some ys ∧ xs.length = ys.length ∧ ys ≠ [] ∧ ys.length ≤ 100) ∧
  ∀ (t' : Addr) (w0 w1 w2 : V) (o1' o2' : Option (List V)) H', H' t' = some (.tup [w0, w1, w2]) → St3 H' p w0 w1 w2 o1' o2' → Bad c w0 o1' o2' → Src H' p → Off p H H' → Q (.ref t') H'
def Jn (H : Hp) (c : Bool) (p t : Addr) (way : Int) (v0 v1 v2 : V) (o1 o2 : Option (List V)) (k : Int) (σ : L2.St) (H' : Hp) : Prop :=
  ∃ (w0 w1 w2 : V) (o1' o2' : Option (List V)), σ = [some (.ref p), some (.int (kI c)), some (.ref t), some (.int way), some w0, some w1, some w2] ∧ St3 H' p w0 w1 w2 o1' o2' ∧ Src H' p ∧ Off p H H' ∧ ((way < k ∧ Bad c w0 o1' o2') ∨ (k ≤ way ∧ w0 = v0 ∧ w1 = v1 ∧ w2 = v2 ∧ o1' = o1 ∧ o2' = o2))
theorem bad_no1 {c : Bool} {v0 : V} {o2 : Option (List V)} : Bad c v0 none o2 := .inr trivial
theorem bad_no2 {c : Bool} {v0 : V} {o1 : Option (List V)} : Bad c v0 o1 none := by
  cases o1 <;> exact .inr trivial
theorem bad_item1 {c : Bool} {v0 : V} {xs : List V} {o2 : Option (List V)} {v : V} (hv : v ∈ xs) (hc : cntV v = false) (hn : c = true → v ≠ .non) : Bad c v0 (some xs) o2 := by
  cases o2 with
  | none => exact bad_no2
  | some ys => exact .inr (.inl ⟨v, hv, hc, hn⟩)
theorem bad_item2 {c : Bool} {v0 : V} {ys : List V} {o1 : Option (List V)} {v : V} (hv : v ∈ ys) (hc : cntV v = false) : Bad c v0 o1 (some ys) := by
  cases o1 with
  | none => exact bad_no1
  | some xs => exact .inr (.inr (.inl ⟨v, hv, hc⟩))
theorem mem_set_self {xs : List V} {j : Nat} {v : V} (h : j < xs.length) : v ∈ xs.set j v := List.mem_of_getElem? (i := j) (by rw [List.getElem?_set_self h])
theorem cut_init {ys : List V} (h : ys ≠ []) : cutV ys none (some (-1)) = ys.take (ys.length - 1) := by
  have hl : 0 < ys.length := List.length_pos_iff.mpr h
  unfold cutV
  rw [HT.sIx_none, List.drop_zero, Nat.sub_zero]
  have e : HT.sIx ys.length ys.length (some (-1)) = ys.length - 1 := by
    show (if (-1 : Int) < 0 then ((-1 : Int) + (ys.length : Int)).toNat else min (-1 : Int).toNat ys.length) = _
    rw [if_pos (by decide)]
    omega
  rw [e]
theorem WK.upd {H : Hp} {b : Addr} {zs ys : List V} {x : V} (hb : H b = some (.lst zs)) (hy : ∀ y ∈ ys, plainV y) (h : WK H x) : WK (upd H b (.lst ys)) x := by
  rcases h with h | h | h
  · exact .inl h
  · exact .inr (.inl h)
  · refine .inr (.inr ?_)
    cases h with
    | non => exact .non
    | str x => exact .str x
    | @lst a xs e hp =>
      by_cases z : a = b
      · rw [z]
        exact .lst upd_same hy
      · exact .lst (by rw [upd_ne z]; exact e) hp
    | tup e => exact .tup (by rw [upd_ne (fun z => by rw [z, hb] at e; cases e)]; exact e)
    | dK e => exact .dK (by rw [upd_ne (fun z => by rw [z, hb] at e; cases e)]; exact e)
theorem NoL.upd {H : Hp} {b : Addr} {zs ys : List V} {x : V} (hb : H b = some (.lst zs)) (h : NoL H x) : NoL (upd H b (.lst ys)) x := by
  cases h with
  | non => exact .non
  | bl b => exact .bl b
  | int i => exact .int i
  | str x => exact .str x
  | tup e => exact .tup (by rw [upd_ne (fun z => by rw [z, hb] at e; cases e)]; exact e)
  | dK e => exact .dK (by rw [upd_ne (fun z => by rw [z, hb] at e; cases e)]; exact e)
theorem seqV.ne {H : Hp} {p b : Addr} {v : V} {o : Option (List V)} (h : seqV H p v o) (nb : H b = none) : ∀ a, v = .ref a → a ≠ b := fun a e => by
  cases o with
  | none =>
    rw [e] at h
    cases h with
    | tup e => exact ne_of_none e nb
    | dK e => exact ne_of_none e nb
  | some xs =>
    obtain ⟨a', e', _, h, _⟩ := h
    rw [e] at e'
    cases e'
    exact ne_of_none h nb
theorem seqV.upd {H : Hp} {p b : Addr} {zs ys : List V} {v : V} {o : Option (List V)} (hb : H b = some (.lst zs)) (hy : ∀ y ∈ ys, plainV y) (ne : ∀ a, v = .ref a → a ≠ b) (h : seqV H p v o) : seqV (upd H b (.lst ys)) p v o := by
  cases o with
  | none => exact NoL.upd hb h
  | some xs =>
    obtain ⟨a, rfl, n, e, l, wk⟩ := h
    exact ⟨a, rfl, n, by rw [upd_ne (ne a rfl)]; exact e, l, fun x hx => (wk x hx).upd hb hy⟩
theorem set_ne {xs : List V} {j : Nat} {v : V} (h : xs ≠ []) : xs.set j v ≠ [] := fun z => by
  have := congrArg List.length z
  rw [List.length_set] at this
  exact h (List.eq_nil_of_length_eq_zero this)
section
variable {P : Program} {w : World} {K : PySem.W.Frag} {mg : Str → Option Value} {base : Heap}
theorem ok_spoilt (T : Txt K mg) : Ok P w K mg base CX0 "_law_spoilt" s_spoilt 4 ["_law_source_here", "_law_kind", "_law_handed", "_law_way"] spSpoilt := by
  have O_next := ok_next (P := P) (w := w) (base := base) T
  have O_no_number := ok_no_number (P := P) (w := w) (base := base) T
  have O_no_list := ok_no_list2 (P := P) (w := w) (base := base) T
  refine T.h_spoilt.ok sc_spoilt (fun vs H Q E h => ?_) (fun f cdv A outer s H vs Q E hr h => ?_)
  · obtain ⟨_, _, _, _, _, _, _, _, _, rfl, _⟩ := h; rfl
  obtain ⟨p, t, c, way, v0, v1, v2, o1, o2, rfl, hs, y0, y5, et, st0, pre, pre4, pre5, q⟩ := h
  refine ⟨_, (pss_cons (ps_asg (pv 2) (pg_tup rfl (pgs_cons (pg_name (i := 4) sc_spoilt.nd rfl (by first | exact Or.inl rfl | exact Or.inr rfl)) (pgs_cons (pg_name (i := 5) sc_spoilt.nd rfl (by first | exact Or.inl rfl | exact Or.inr rfl)) (pgs_cons (pg_name (i := 6) sc_spoilt.nd rfl (by first | exact Or.inl rfl | exact Or.inr rfl)) pgs_nil)))))
      (Evl.pss_cut (ps_if (pt_cmpR op_eq (pv 3) pe_int (nomark _))
      (pss_one (ps_set (i := 4) sc_spoilt.nd rfl (by first | exact Or.inl rfl | exact Or.inr rfl) (callO O_no_number (hr.mono (by decide)) (by rfl) (pa_cons (pv 0) (pa_cons pe_int pa_nil)))))
      pss_nil)
      (Evl.pss_cut (ps_if (PW.pt (pw_and (pt_cmpR op_eq (pv 3) pe_int (nomark _)) (pw_and1 (pt_val (pe_callB call_isi (by rfl) T.m_isinstance (by decide +kernel) (pa_cons (pv 5) (pa_cons (pe_bltn (v := .ty "list") (by rfl) T.m_list (by decide +kernel) rfl) pa_nil)))))))
      (pss_one (ps_set (i := 5) sc_spoilt.nd rfl (by first | exact Or.inl rfl | exact Or.inr rfl) (callO O_no_list (hr.mono (by decide)) (by rfl) (pa_cons (pv 0) (pa_cons (pv 5) pa_nil)))))
      pss_nil)
      (Evl.pss_cut (ps_if (PW.pt (pw_and (pt_cmpR op_eq (pv 3) pe_int (nomark _)) (pw_and1 (pt_val (pe_callB call_isi (by rfl) T.m_isinstance (by decide +kernel) (pa_cons (pv 6) (pa_cons (pe_bltn (v := .ty "list") (by rfl) T.m_list (by decide +kernel) rfl) pa_nil)))))))
      (pss_one (ps_set (i := 6) sc_spoilt.nd rfl (by first | exact Or.inl rfl | exact Or.inr rfl) (callO O_no_list (hr.mono (by decide)) (by rfl) (pa_cons (pv 0) (pa_cons (pv 6) pa_nil)))))
      pss_nil)
      (Evl.pss_cut (ps_if (PW.pt (pw_and (pt_cmpR op_eq (pv 3) pe_int (nomark _)) (pw_and1 (pt_val (pe_callB call_isi (by rfl) T.m_isinstance (by decide +kernel) (pa_cons (pv 5) (pa_cons (pe_bltn (v := .ty "list") (by rfl) T.m_list (by decide +kernel) rfl) pa_nil)))))))
      (pss_cons (ps_set (i := 5) sc_spoilt.nd rfl (by first | exact Or.inl rfl | exact Or.inr rfl) (pe_callTy call_list_of (by rfl) T.m_list (by decide +kernel) (pa_cons (pv 5) pa_nil)))
      (pss_one (ps_asg (callO O_no_number (hr.mono (by decide)) (by rfl) (pa_cons (pv 0) (pa_cons (pv 1) pa_nil))) (pg_sub (pv 5) (callO O_next (hr.mono (by decide)) (by rfl) (pa_cons (pv 0) (pa_cons (pe_callB call_len (by rfl) T.m_len (by decide +kernel) (pa_cons (pv 5) pa_nil)) pa_nil))) set_list))))
      pss_nil)
      (Evl.pss_cut (ps_if (PW.pt (pw_and (pt_cmpR op_eq (pv 3) pe_int (nomark _)) (pw_and1 (pt_val (pe_callB call_isi (by rfl) T.m_isinstance (by decide +kernel) (pa_cons (pv 6) (pa_cons (pe_bltn (v := .ty "list") (by rfl) T.m_list (by decide +kernel) rfl) pa_nil)))))))
      (pss_cons (ps_set (i := 6) sc_spoilt.nd rfl (by first | exact Or.inl rfl | exact Or.inr rfl) (pe_callTy call_list_of (by rfl) T.m_list (by decide +kernel) (pa_cons (pv 6) pa_nil)))
      (pss_one (ps_asg (callO O_no_number (hr.mono (by decide)) (by rfl) (pa_cons (pv 0) (pa_cons pe_int pa_nil))) (pg_sub (pv 6) (callO O_next (hr.mono (by decide)) (by rfl) (pa_cons (pv 0) (pa_cons (pe_callB call_len (by rfl) T.m_len (by decide +kernel) (pa_cons (pv 6) pa_nil)) pa_nil))) set_list))))
      pss_nil)
      (Evl.pss_cut (ps_if (PW.pt (pw_and (pt_cmpR op_eq (pv 3) pe_int (nomark _)) (pw_and1 (pt_cmpR op_eq (callO O_next (hr.mono (by decide)) (by rfl) (pa_cons (pv 0) (pa_cons pe_int pa_nil))) pe_int (nomark _)))))
      (pss_one (ps_set (i := 6) sc_spoilt.nd rfl (by first | exact Or.inl rfl | exact Or.inr rfl) (pe_op op_cat (pv 6) (pe_lst (pa_cons (callO O_next (hr.mono (by decide)) (by rfl) (pa_cons (pv 0) (pa_cons pe_int pa_nil))) pa_nil)))))
      (pss_one (ps_if (pt_cmpR op_eq (pv 3) pe_int (nomark _))
      (pss_one (ps_set (i := 6) sc_spoilt.nd rfl (by first | exact Or.inl rfl | exact Or.inr rfl) (pe_slice sl_list (pv 6) po_none (po_some (pe_un un_neg pe_int)))))
      pss_nil)))
      (pss_one (ps_ret (pe_tup (pa_cons (pv 4) (pa_cons (pv 5) (pa_cons (pv 6) pa_nil))))))))))))), ?_⟩
  refine ⟨_, rfl, t, _, rfl, .of et, rfl, _, _, rfl, _, _, rfl, _, _, rfl, rfl, ?_⟩
  have pass : ∀ {k : Int} {σ : L2.St} {H' : Hp}, ¬ way = k → Jn H c p t way v0 v1 v2 o1 o2 k σ H' → Jn H c p t way v0 v1 v2 o1 o2 (k + 1) σ H' := fun {k σ H'} hk h => by
    obtain ⟨w0, w1, w2, a, b, e, st, src, off, h⟩ := h
    refine ⟨w0, w1, w2, a, b, e, st, src, off, ?_⟩
    rcases h with ⟨h1, h2⟩ | ⟨h1, h2⟩
    · exact .inl ⟨by omega, h2⟩
    · exact .inr ⟨by omega, h2⟩
  have isl : ∀ {H' : Hp} {a : Addr} {xs : List V}, H' a = some (.lst xs) → True := fun _ => trivial
  -- the total
  refine ⟨Jn H c p t way v0 v1 v2 o1 o2 1, ?_, ?_⟩
  · refine ⟨_, rfl, rfl, _, rfl, ite2 (fun e => ?_) (fun e => ?_)⟩
    · have hw : way = 0 := V.int.inj (of_decide_eq_true e)
      exact ⟨_, rfl, p, 1, rfl, hs, fun v H1 wk cn _ s1 o1' => ⟨v, v1, v2, o1, o2, rfl, ⟨wk, st0.s1.off hs s1 o1', st0.s2.off hs s1 o1', st0.n1⟩, s1, o1', .inl ⟨by omega, .inl cn⟩⟩⟩
    · have hw : ¬ way = 0 := fun z => e (by rw [z]; exact decide_eq_true rfl)
      exact pass hw ⟨v0, v1, v2, o1, o2, rfl, st0, hs, .refl, .inr ⟨y0, rfl, rfl, rfl, rfl, rfl⟩⟩
  rintro σ H1 J1
  -- the one list
  refine ⟨Jn H c p t way v0 v1 v2 o1 o2 2, ?_, ?_⟩
  · by_cases hw : way = 1
    · obtain ⟨w0, w1, w2, a1, a2, rfl, st, src, off, h⟩ := J1
      refine ⟨_, rfl, rfl, true, bl_yes (by rw [hw]), iteT ?_⟩
      cases a1 with
      | none =>
        obtain ⟨T1, ty, ek⟩ := NoL.ty (K := K) st.s1
        exact ⟨_, rfl, _, _, _, _, false, rfl, .ty _, ty, kit_ty ek, false, rfl, iteF ⟨w0, w1, w2, none, a2, rfl, st, src, off, .inl ⟨by omega, bad_no1⟩⟩⟩
      | some xs =>
        obtain ⟨a, rfl, nap, ea, l1, wk⟩ := st.s1
        refine ⟨_, rfl, _, _, _, _, true, rfl, .ty _, .base (.lst ea), kit_ty (by decide +kernel), true, rfl, iteT ?_⟩
        exact ⟨_, rfl, _, rfl, p, a, xs, rfl, src, nap, ea, fun v H2 nl s2 o2' => ⟨w0, v, w2, none, a2, rfl, ⟨st.w0.off src s2 o2', nl, st.s2.off src s2 o2', fun _ z => by cases z⟩, s2, off.trans o2', .inl ⟨by omega, bad_no1⟩⟩⟩
    · have J2 := pass hw J1
      obtain ⟨w0, w1, w2, a1, a2, rfl, _⟩ := J1
      exact ⟨_, rfl, rfl, false, bl_no (fun z => hw (V.int.inj z)), iteF (iteF J2)⟩
  rintro σ H2 J2
  -- the other list
  refine ⟨Jn H c p t way v0 v1 v2 o1 o2 3, ?_, ?_⟩
  · by_cases hw : way = 2
    · obtain ⟨w0, w1, w2, a1, a2, rfl, st, src, off, h⟩ := J2
      refine ⟨_, rfl, rfl, true, bl_yes (by rw [hw]), iteT ?_⟩
      cases a2 with
      | none =>
        obtain ⟨T1, ty, ek⟩ := NoL.ty (K := K) st.s2
        exact ⟨_, rfl, _, _, _, _, false, rfl, .ty _, ty, kit_ty ek, false, rfl, iteF ⟨w0, w1, w2, a1, none, rfl, st, src, off, .inl ⟨by omega, bad_no2⟩⟩⟩
      | some xs =>
        obtain ⟨a, rfl, nap, ea, l1, wk⟩ := st.s2
        refine ⟨_, rfl, _, _, _, _, true, rfl, .ty _, .base (.lst ea), kit_ty (by decide +kernel), true, rfl, iteT ?_⟩
        exact ⟨_, rfl, _, rfl, p, a, xs, rfl, src, nap, ea, fun v H2 nl s2 o2' => ⟨w0, w1, v, a1, none, rfl, ⟨st.w0.off src s2 o2', st.s1.off src s2 o2', nl, st.n1⟩, s2, off.trans o2', .inl ⟨by omega, bad_no2⟩⟩⟩
    · have J3 := pass hw J2
      obtain ⟨w0, w1, w2, a1, a2, rfl, _⟩ := J2
      exact ⟨_, rfl, rfl, false, bl_no (fun z => hw (V.int.inj z)), iteF (iteF J3)⟩
  rintro σ H3 J3
  -- a part of the one list
  refine ⟨Jn H c p t way v0 v1 v2 o1 o2 4, ?_, ?_⟩
  · by_cases hw : way = 3
    · obtain ⟨w0, w1, w2, a1, a2, rfl, st, src, off, h⟩ := J3
      refine ⟨_, rfl, rfl, true, bl_yes (by rw [hw]), iteT ?_⟩
      cases a1 with
      | none =>
        obtain ⟨T1, ty, ek⟩ := NoL.ty (K := K) st.s1
        exact ⟨_, rfl, _, _, _, _, false, rfl, .ty _, ty, kit_ty ek, false, rfl, iteF ⟨w0, w1, w2, none, a2, rfl, st, src, off, .inl ⟨by omega, bad_no1⟩⟩⟩
      | some xs =>
        have xne := st.n1 xs rfl
        have xl : 0 < xs.length := List.length_pos_iff.mpr xne
        obtain ⟨a, rfl, nap, ea, l1, wk⟩ := st.s1
        refine ⟨_, rfl, _, _, _, _, true, rfl, .ty _, .base (.lst ea), kit_ty (by decide +kernel), true, rfl, iteT ?_⟩
        refine ⟨_, rfl, a, _, rfl, .inl (.of ea), fun b nb => ?_⟩
        have sb := same_upd (o := .lst xs) nb
        have eb : (upd H3 b (.lst xs)) b = some (.lst xs) := upd_same
        have nbp := src.ne_new nb
        have srcb := src.keep (o := .lst xs) nb
        generalize upd H3 b (.lst xs) = H4 at sb eb srcb ⊢
        have stb := st.same sb
        refine ⟨_, rfl, _, rfl, p, kI c, rfl, srcb, fun v H5 wkv cn nn s5 o5 => ?_⟩
        have eb5 := o5 _ _ eb nbp
        refine ⟨_, rfl, _, rfl, _, rfl, _, _, rfl, .inl ⟨_, .of eb5, rfl⟩, p, (xs.length : Int), rfl, by omega, by omega, s5, fun r H6 r0 r1 s6 o6 => ?_⟩
        obtain ⟨rn, rfl⟩ := Int.eq_ofNat_of_zero_le r0
        have rl : rn < xs.length := by omega
        have eb6 := o6 _ _ eb5 nbp
        refine ⟨b, xs, (rn : Int), rn, rfl, rfl, eb6, ixN_at rl, ?_⟩
        have st6 : St3 H6 p w0 (.ref a) w2 (some xs) a2 := (stb.off srcb s5 o5).off s5 s6 o6
        have wv6 : WK H6 v := wkv.off s5 s6 o6
        have hpl : ∀ y ∈ xs.set rn v, plainV y := fun y hy => by
          rcases List.mem_or_eq_of_mem_set hy with h' | h'
          · exact (wk y h').plain
          · rw [h']
            exact wkv.plain
        have of6 : Off p H H6 := ((off.trans (.of sb)).trans o5).trans o6
        refine ⟨w0, .ref b, w2, some (xs.set rn v), a2, rfl, ⟨st6.w0.upd eb6 hpl, ⟨b, rfl, nbp, upd_same, by rw [List.length_set]; exact l1, fun x hx => ?_⟩, st6.s2.upd eb6 hpl (st.s2.ne nb), fun _ z => by cases z; exact set_ne xne⟩, ?_, ?_, .inl ⟨by omega, bad_item1 (mem_set_self rl) cn (fun hc => nn (by rw [hc]; rfl))⟩⟩
        · rcases List.mem_or_eq_of_mem_set hx with h' | h'
          · obtain ⟨_, e', _, _, _, wk6⟩ := st6.s1
            exact (wk6 x h').upd eb6 hpl
          · rw [h']
            exact wv6.upd eb6 hpl
        · obtain ⟨x, y, z, e⟩ := s6
          exact ⟨x, y, z, by rw [upd_ne nbp.symm]; exact e⟩
        · intro d o hd hdp
          rw [upd_ne (ne_of_none (off _ _ hd hdp) nb)]
          exact of6 _ _ hd hdp
    · have J4 := pass hw J3
      obtain ⟨w0, w1, w2, a1, a2, rfl, _⟩ := J3
      exact ⟨_, rfl, rfl, false, bl_no (fun z => hw (V.int.inj z)), iteF (iteF J4)⟩
  rintro σ H4 J4
  -- a part of the other list
  refine ⟨Jn H c p t way v0 v1 v2 o1 o2 5, ?_, ?_⟩
  · by_cases hw : way = 4
    · obtain ⟨w0, w1, w2, a1, a2, rfl, st, src, off, h⟩ := J4
      have ha2 : a2 ≠ some [] := by
        rcases h with ⟨h, _⟩ | ⟨_, _, _, _, _, h⟩
        · omega
        · rw [h]
          exact pre4 hw
      refine ⟨_, rfl, rfl, true, bl_yes (by rw [hw]), iteT ?_⟩
      cases a2 with
      | none =>
        obtain ⟨T1, ty, ek⟩ := NoL.ty (K := K) st.s2
        exact ⟨_, rfl, _, _, _, _, false, rfl, .ty _, ty, kit_ty ek, false, rfl, iteF ⟨w0, w1, w2, a1, none, rfl, st, src, off, .inl ⟨by omega, bad_no2⟩⟩⟩
      | some xs =>
        have xne : xs ≠ [] := fun z => ha2 (by rw [z])
        have xl : 0 < xs.length := List.length_pos_iff.mpr xne
        obtain ⟨a, rfl, nap, ea, l1, wk⟩ := st.s2
        refine ⟨_, rfl, _, _, _, _, true, rfl, .ty _, .base (.lst ea), kit_ty (by decide +kernel), true, rfl, iteT ?_⟩
        refine ⟨_, rfl, a, _, rfl, .inl (.of ea), fun b nb => ?_⟩
        have sb := same_upd (o := .lst xs) nb
        have eb : (upd H4 b (.lst xs)) b = some (.lst xs) := upd_same
        have nbp := src.ne_new nb
        have srcb := src.keep (o := .lst xs) nb
        generalize upd H4 b (.lst xs) = H5 at sb eb srcb ⊢
        have stb := st.same sb
        refine ⟨_, rfl, p, 1, rfl, srcb, fun v H6 wkv cn nn s5 o5 => ?_⟩
        have eb5 := o5 _ _ eb nbp
        refine ⟨_, rfl, _, rfl, _, rfl, _, _, rfl, .inl ⟨_, .of eb5, rfl⟩, p, (xs.length : Int), rfl, by omega, by omega, s5, fun r H7 r0 r1 s6 o6 => ?_⟩
        obtain ⟨rn, rfl⟩ := Int.eq_ofNat_of_zero_le r0
        have rl : rn < xs.length := by omega
        have eb6 := o6 _ _ eb5 nbp
        refine ⟨b, xs, (rn : Int), rn, rfl, rfl, eb6, ixN_at rl, ?_⟩
        have st6 : St3 H7 p w0 w1 (.ref a) a1 (some xs) := (stb.off srcb s5 o5).off s5 s6 o6
        have wv6 : WK H7 v := wkv.off s5 s6 o6
        have hpl : ∀ y ∈ xs.set rn v, plainV y := fun y hy => by
          rcases List.mem_or_eq_of_mem_set hy with h' | h'
          · exact (wk y h').plain
          · rw [h']
            exact wkv.plain
        have of6 : Off p H H7 := ((off.trans (.of sb)).trans o5).trans o6
        refine ⟨w0, w1, .ref b, a1, some (xs.set rn v), rfl, ⟨st6.w0.upd eb6 hpl, st6.s1.upd eb6 hpl (st.s1.ne nb), ⟨b, rfl, nbp, upd_same, by rw [List.length_set]; exact l1, fun x hx => ?_⟩, st.n1⟩, ?_, ?_, .inl ⟨by omega, bad_item2 (mem_set_self rl) cn⟩⟩
        · rcases List.mem_or_eq_of_mem_set hx with h' | h'
          · obtain ⟨_, e', _, _, _, wk6⟩ := st6.s2
            exact (wk6 x h').upd eb6 hpl
          · rw [h']
            exact wv6.upd eb6 hpl
        · obtain ⟨x, y, z, e⟩ := s6
          exact ⟨x, y, z, by rw [upd_ne nbp.symm]; exact e⟩
        · intro d o hd hdp
          rw [upd_ne (ne_of_none (off _ _ hd hdp) nb)]
          exact of6 _ _ hd hdp
    · have J5 := pass hw J4
      obtain ⟨w0, w1, w2, a1, a2, rfl, _⟩ := J4
      exact ⟨_, rfl, rfl, false, bl_no (fun z => hw (V.int.inj z)), iteF (iteF J5)⟩
  rintro σ H5 J5
  -- one too many or too few
  refine ⟨Jn H c p t way v0 v1 v2 o1 o2 6, ?_, ?_⟩
  · by_cases hw : way = 5
    · obtain ⟨w0, w1, w2, a1, a2, rfl, st, src, off, h⟩ := J5
      rcases h with ⟨h, _⟩ | ⟨_, rfl, rfl, rfl, rfl, rfl⟩
      · omega
      obtain ⟨xs, ys, rfl, rfl, hxy, yne, ylen⟩ := pre5 hw
      have yl : 0 < ys.length := List.length_pos_iff.mpr yne
      obtain ⟨a, rfl, nap, ea, l1, wk⟩ := st.s2
      refine ⟨_, rfl, rfl, true, bl_yes (by rw [hw]), iteT ⟨_, rfl, p, 2, rfl, by decide, by decide, src, fun r H6 r0 r1 s6 o6 => ⟨rfl, _, rfl, ite2 (fun e => ?_) (fun e => ?_)⟩⟩⟩
      · refine ⟨_, rfl, _, rfl, p, 9, rfl, by decide, by decide, s6, fun r7 H7 a7 b7 s7 o7 => ⟨(by show 1 ≤ sizeLine; decide), fun l nl => ?_⟩⟩
        have sl := same_upd (o := .lst [.int r7]) nl
        have ea7 := o7 _ _ (o6 _ _ ea nap) nap
        refine ⟨a, l, _, _, rfl, rfl, sl _ _ ea7, upd_same, bigl (by show ys.length + 1 ≤ _; omega), fun D nD => ?_⟩
        have sD := same_upd (o := .lst (ys ++ [.int r7])) nD
        have st7 := (st.off src s6 o6).off s6 s7 o7
        have s8 := sl.trans sD
        have src8 := s7.same s8
        have nDp := (s7.keep nl).ne_new nD
        refine ⟨w0, w1, .ref D, some xs, some (ys ++ [.int r7]), rfl, ⟨st7.w0.same s8, st7.s1.same s8, ⟨D, rfl, nDp, upd_same, by rw [List.length_append, List.length_singleton]; omega, fun x hx => ?_⟩, st.n1⟩, src8, ((off.trans o6).trans o7).trans (.of s8), .inl ⟨by omega, .inr (.inr (.inr ?_))⟩⟩
        · rcases List.mem_append.mp hx with h' | h'
          · obtain ⟨_, _, _, _, _, wk7⟩ := st7.s2
            exact (wk7 x h').same s8
          · rw [List.mem_singleton.mp h']
            exact .inl ⟨_, rfl⟩
        · rw [List.length_append, List.length_singleton]
          omega
      · have ea6 := o6 _ _ ea nap
        refine ⟨_, rfl, rfl, true, bl_yes (by rw [hw]), iteT ?_⟩
        refine ⟨_, rfl, _, rfl, _, rfl, a, _, rfl, .of ea6, fun D nD => ?_⟩
        have sD := same_upd (o := .lst (cutV ys none (some (-1)))) nD
        have st6 := st.off src s6 o6
        have nDp := s6.ne_new nD
        have eD : (upd H6 D (.lst (cutV ys none (some (-1))))) D = some (.lst (ys.take (ys.length - 1))) := by rw [upd_same, cut_init yne]
        refine ⟨w0, w1, .ref D, some xs, some (ys.take (ys.length - 1)), rfl, ⟨st6.w0.same sD, st6.s1.same sD, ⟨D, rfl, nDp, eD, by rw [List.length_take]; omega, fun x hx => ?_⟩, st.n1⟩, s6.keep nD, (off.trans o6).trans (.of sD), .inl ⟨by omega, .inr (.inr (.inr ?_))⟩⟩
        · obtain ⟨_, _, _, _, _, wk6⟩ := st6.s2
          exact (wk6 x (List.mem_of_mem_take hx)).same sD
        · rw [List.length_take]
          omega
    · have J6 := pass hw J5
      obtain ⟨w0, w1, w2, a1, a2, rfl, _⟩ := J5
      exact ⟨_, rfl, rfl, false, bl_no (fun z => hw (V.int.inj z)), iteF (iteF ⟨_, rfl, rfl, false, bl_no (fun z => hw (V.int.inj z)), iteF J6⟩)⟩
  rintro σ H6 ⟨w0, w1, w2, a1, a2, rfl, st, src, off, h⟩
  have bad : Bad c w0 a1 a2 := by
    rcases h with ⟨_, h⟩ | ⟨h, _⟩
    · exact h
    · omega
  refine ⟨_, rfl, _, rfl, _, rfl, (by show 3 ≤ sizeLine; decide), fun u nu => ?_⟩
  have su := same_upd (o := .tup [w0, w1, w2]) nu
  exact q u w0 w1 w2 a1 a2 _ upd_same (st.same su) bad (src.same su) (off.trans (.of su))
end

theorem NoL.plain {H : Hp} {x : V} (h : NoL H x) : plainV x := by
  cases h with
  | non => exact .inl rfl
  | bl b => exact .inl rfl
  | int i => exact .inl rfl
  | str x => exact .inl rfl
  | tup e => exact .inr ⟨_, rfl⟩
  | dK e => exact .inr ⟨_, rfl⟩
def SameD (D : Addr) (H : Hp) (x y : V) : Prop := (x = y ∧ plainV x) ∨ ∃ a b zs, x = .ref a ∧ y = .ref b ∧ a ≠ D ∧ b ≠ D ∧ H a = some (.lst zs) ∧ H b = some (.lst zs) ∧ ∀ z ∈ zs, plainV z
theorem SameD.same {D : Addr} {H H' : Hp} {x y : V} (h : SameD D H x y) (s : Same H H') : SameD D H' x y := by
  rcases h with h | ⟨a, b, zs, e1, e2, n1, n2, ha, hb, hp⟩
  · exact .inl h
  · exact .inr ⟨a, b, zs, e1, e2, n1, n2, s _ _ ha, s _ _ hb, hp⟩
theorem SameD.upd {D : Addr} {H : Hp} {x y : V} {o : HO} (h : SameD D H x y) : SameD D (upd H D o) x y := by
  rcases h with h | ⟨a, b, zs, e1, e2, n1, n2, ha, hb, hp⟩
  · exact .inl h
  · exact .inr ⟨a, b, zs, e1, e2, n1, n2, by rw [upd_ne n1]; exact ha, by rw [upd_ne n2]; exact hb, hp⟩
theorem SameD.to {D : Addr} {H : Hp} {x y : V} (h : SameD D H x y) : SameV H x y := by
  rcases h with h | ⟨a, b, zs, e1, e2, _, _, ha, hb, hp⟩
  · exact .inl h
  · exact .inr ⟨a, b, zs, e1, e2, ha, hb, hp⟩
def spLaw (K : PySem.W.Frag) : Sp := fun vs H Q _ => ∃ (a : Addr) (ns : List Int), vs = [.ref a] ∧ SqL K H a (ns.map V.int) ∧ ns.length ≤ 63 ∧ ∀ H', Q (.bl true) H'
section
variable {P : Program} {w : World} {K : PySem.W.Frag} {mg : Str → Option Value} {base : Heap}
theorem ok_law {f : Addr} {fd : FuncData} (F : Fun K "law" "law" s_law f fd) (T : Txt K mg) : FnOk P w K mg base CX0 8 f fd ["_law_script"] (spLaw K) := by
  have O_cell_at := ok_cell_at (P := P) (w := w) (base := base) T
  have O_source := ok_source (P := P) (w := w) (base := base) T
  have O_next := ok_next (P := P) (w := w) (base := base) T
  have O_numbers := ok_numbers (P := P) (w := w) (base := base) T
  have O_spoilt := ok_spoilt (P := P) (w := w) (base := base) T
  have O_copy := ok_copy (P := P) (w := w) (base := base) T
  have O_refused := ok_refused (P := P) (w := w) (base := base) T
  have O_told := ok_told (P := P) (w := w) (base := base) T
  refine F.ok sc_law (fun vs H Q E h => ?_) (fun cdv A outer s H vs Q E hr h => ?_)
  · obtain ⟨a, ns, rfl, _⟩ := h; rfl
  obtain ⟨a, ns, rfl, hS, hlen, k⟩ := h
  refine ⟨_, (pss_cons (ps_for PassesOwn.never rfl (pi_list (pe_op op_cat (pe_lst (pa_cons (callO O_cell_at (hr.mono (by decide)) (by rfl) (pa_cons (pv 0) (pa_cons pe_int pa_nil))) pa_nil)) (pe_slice sl_list (pv 0) (po_some pe_int) (po_some pe_int)))) (pg_name (i := 1) sc_law.nd rfl (by first | exact Or.inl rfl | exact Or.inr rfl))
      (pss_cons (ps_set (i := 2) sc_law.nd rfl (by first | exact Or.inl rfl | exact Or.inr rfl) (callO O_source (hr.mono (by decide)) (by rfl) (pa_cons (pv 1) pa_nil)))
      (pss_cons (ps_set (i := 3) sc_law.nd rfl (by first | exact Or.inl rfl | exact Or.inr rfl) (callO O_next (hr.mono (by decide)) (by rfl) (pa_cons (pv 2) (pa_cons pe_int pa_nil))))
      (pss_cons (ps_set (i := 4) sc_law.nd rfl (by first | exact Or.inl rfl | exact Or.inr rfl) (pe_lst (pa_cons (callO O_next (hr.mono (by decide)) (by rfl) (pa_cons (pv 2) (pa_cons pe_int pa_nil))) pa_nil)))
      (Evl.pss_cut (ps_if (pt_cmpR op_eq (callO O_next (hr.mono (by decide)) (by rfl) (pa_cons (pv 2) (pa_cons pe_int pa_nil))) pe_int (nomark _))
      (pss_one (ps_expr (pe_bm PySem.F.plainAttrs_list PySem.F.slot_list_append PySem.F.type_list_append mt_append (pv 4) (pa_cons (callO O_next (hr.mono (by decide)) (by rfl) (pa_cons (pv 2) (pa_cons pe_int pa_nil))) pa_nil))))
      pss_nil)
      (pss_cons (ps_set (i := 5) sc_law.nd rfl (by first | exact Or.inl rfl | exact Or.inr rfl) (pe_ix ix_list (pe_lst (pa_cons (pe_op op_add pe_int (callO O_next (hr.mono (by decide)) (by rfl) (pa_cons (pv 2) (pa_cons pe_int pa_nil)))) (pa_cons pe_int pa_nil))) (pe_op op_fdiv (callO O_next (hr.mono (by decide)) (by rfl) (pa_cons (pv 2) (pa_cons pe_int pa_nil))) pe_int) (fun _ _ => rfl)))
      (pss_cons (ps_set (i := 6) sc_law.nd rfl (by first | exact Or.inl rfl | exact Or.inr rfl) (pe_ix ix_list (callO O_numbers (hr.mono (by decide)) (by rfl) (pa_cons (pv 2) (pa_cons pe_int pa_nil))) pe_int (fun _ _ => rfl)))
      (pss_cons (ps_set (i := 7) sc_law.nd rfl (by first | exact Or.inl rfl | exact Or.inr rfl) (callO O_numbers (hr.mono (by decide)) (by rfl) (pa_cons (pv 2) (pa_cons (pv 5) pa_nil))))
      (pss_cons (ps_set (i := 8) sc_law.nd rfl (by first | exact Or.inl rfl | exact Or.inr rfl) (callO O_numbers (hr.mono (by decide)) (by rfl) (pa_cons (pv 2) (pa_cons (pv 5) pa_nil))))
      (pss_cons (ps_set (i := 9) sc_law.nd rfl (by first | exact Or.inl rfl | exact Or.inr rfl) (pe_tup (pa_cons (pv 6) (pa_cons (pe_callTy call_list_of (by rfl) T.m_list (by decide +kernel) (pa_cons (pv 7) pa_nil)) (pa_cons (pe_callTy call_list_of (by rfl) T.m_list (by decide +kernel) (pa_cons (pv 8) pa_nil)) pa_nil)))))
      (pss_cons (ps_for PassesOwn.never rfl (pi_list (pv 4)) (pg_name (i := 10) sc_law.nd rfl (by first | exact Or.inl rfl | exact Or.inr rfl))
      (pss_one (ps_if (PW.pt (pw_or (pt_cmpR op_ne (pv 10) pe_int (nomark _)) (pw_or1 (pt_cmpR (op_neNil hr.units) (pe_ix ix_tup (pv 9) pe_int (fun _ _ => rfl)) (pe_lst pa_nil) (nomark _)))))
      (pss_one (ps_set (i := 9) sc_law.nd rfl (by first | exact Or.inl rfl | exact Or.inr rfl) (callO O_spoilt (hr.mono (by decide)) (by rfl) (pa_cons (pv 2) (pa_cons (pv 3) (pa_cons (pv 9) (pa_cons (pv 10) pa_nil)))))))
      pss_nil)))
      (pss_cons (ps_setLc (i := 11) (own := [("_law_thing", 12)]) (by rfl) sc_law.nd rfl rfl (sw_true rfl rfl rfl (by decide +kernel)) (pi_tup (pv 9)) (blkOk_by (own := [("_law_thing", 12)]) (N := n_law) (sc := defScope s_law) (by decide +kernel)) (fun _ _ _ _ _ => (pg_name (i := 12) sc_law.nd rfl (by first | exact Or.inl rfl | exact Or.inr rfl))) (fun _ _ _ _ _ => pts_nil) (fun _ _ _ _ _ => (callO O_copy (hr.mono (by decide)) (by rfl) (pa_cons (pv 12) pa_nil))))
      (Evl.pss_cut (ps_if (PW.pt (pw_or (pt_not (pt_val (callO O_refused (hr.mono (by decide)) (by rfl) (pa_cons (pv 3) (pa_cons (pv 9) pa_nil))))) (pw_or1 (pt_cmpR (op_neCopy hr.units) (pe_callTy call_list_of (by rfl) T.m_list (by decide +kernel) (pa_cons (pv 9) pa_nil)) (pv 11) (nomark _)))))
      (pss_one (ps_ret pe_bl))
      pss_nil)
      (pss_one (ps_if (pt_not (pt_val (callO O_told (hr.mono (by decide)) (by rfl) (pa_cons (pv 3) (pa_cons (pv 6) (pa_cons (pv 7) (pa_cons (pv 8) pa_nil)))))))
      (pss_one (ps_ret pe_bl))
      pss_nil)))))))))))))))
      (pss_one (ps_ret pe_bl))), ?_⟩
  refine cells_for rfl hS hlen fun L0 zs HB hL sB => ?_
  refine for_list (K := K) (a := L0) (xs := zs.map V.int) (fun i σ H2 => (∃ v1 v2 v3 v4 v5 v6 v7 v8 v9 v10 v11 v12, σ = [some (.ref a), v1, v2, v3, v4, v5, v6, v7, v8, v9, v10, v11, v12]) ∧ Same HB H2)
    ⟨⟨none, none, none, none, none, none, none, none, none, none, none, none, rfl⟩, .refl _⟩ (fun i σ H2 _ h2 => .of (h2.2 _ _ hL)) ?_ (fun σ H2 _ => k H2)
  rintro i y σ H2 hi ⟨⟨v1, v2, v3, v4, v5, v6, v7, v8, v9, v10, v11, v12, rfl⟩, sm⟩
  obtain ⟨z, rfl, _⟩ := int_at hi
  refine ⟨_, rfl, z, rfl, fun p H3 np s3 sm3 => ?_⟩
  refine ⟨_, rfl, p, 2, rfl, by decide, by decide, s3, fun kd H4 a4 b4 s4 o4 => ?_⟩
  obtain ⟨c, rfl⟩ := kI_of a4 b4
  refine ⟨_, rfl, p, 6, rfl, by decide, by decide, s4, fun wy H5 a5 b5 s5 o5 => ⟨(by show 1 ≤ sizeLine; decide), fun W nW => ?_⟩⟩
  have nWp := s5.ne_new nW
  have o35 : Off p H3 H5 := o4.trans o5
  -- the ways
  refine ⟨fun σ H' => ∃ ws : List Int, σ = [some (.ref a), some (.int z), some (.ref p), some (.int (kI c)), some (.ref W), v5, v6, v7, v8, v9, v10, v11, v12] ∧ H' W = some (.lst (ws.map V.int)) ∧ 0 < ws.length ∧ ws.length ≤ 2 ∧ (∀ (i : Nat) x, ws[i]? = some x → 0 ≤ x ∧ x ≤ 5 ∧ (0 < i → x ≤ 4)) ∧ Src H' p ∧ Off p H3 H', ?_, ?_⟩
  · refine ⟨_, rfl, p, 3, rfl, by decide, by decide, s5.keep nW, fun r6 H6 a6 b6 s6 o6 => ⟨rfl, _, rfl, ite2 (fun e => ?_) (fun e => ?_)⟩⟩
    · have eW6 := o6 _ _ upd_same nWp
      refine ⟨_, rfl, .inl ⟨rfl, _, .of eW6⟩, _, rfl, p, 5, rfl, by decide, by decide, s6, fun w2 H7 a7 b7 s7 o7 => ?_⟩
      have eW7 := o7 _ _ eW6 nWp
      refine ⟨W, _, _, rfl, rfl, eW7, big (by show 1 ≤ _; omega), [wy, w2], rfl, ?_, Nat.zero_lt_succ _, Nat.le_refl 2, ?_, ?_, ?_⟩
      · rw [upd_same]
        rfl
      · intro i x hx
        match i, hx with
        | 0, hx => cases hx; omega
        | 1, hx => cases hx; omega
      · obtain ⟨x, y, z, e⟩ := s7
        exact ⟨x, y, z, by rw [upd_ne nWp.symm]; exact e⟩
      · intro b o hb hbp
        rw [upd_ne (ne_of_none (o35 _ _ hb hbp) nW)]
        exact o7 _ _ (o6 _ _ (same_upd nW _ _ (o35 _ _ hb hbp)) hbp) hbp
    · refine ⟨[wy], rfl, o6 _ _ upd_same nWp, Nat.zero_lt_succ _, Nat.le_succ 1, ?_, s6, fun b o hb hbp => o6 _ _ (same_upd nW _ _ (o35 _ _ hb hbp)) hbp⟩
      intro i x hx
      match i, hx with
      | 0, hx => cases hx; omega
  rintro σ H6 ⟨ws, rfl, eW, ws1, ws2, wB, s6, o36⟩
  -- how many
  refine ⟨_, rfl, p, 9, rfl, by decide, by decide, s6, fun r7 H7 a7 b7 s7 o7 => ⟨_, _, rfl, rfl, (by show 2 ≤ sizeLine; decide), fun l8 n8 => ?_⟩⟩
  refine ⟨_, rfl, p, 6, rfl, by decide, by decide, s7.keep n8, fun r8 H8 a8 b8 s8 o8 => ⟨_, _, rfl, rfl, ⟨by decide, by decide⟩, ?_⟩⟩
  obtain ⟨many, hm, hmb⟩ := pick (ns := [1 + r7, 60]) (r := r8 / 5) (by omega) (by show r8 / 5 < 2; omega) (fun m => 1 ≤ m ∧ m ≤ 60) (fun n hn => by
    simp only [List.mem_cons, List.not_mem_nil, or_false] at hn
    rcases hn with rfl | rfl <;> constructor <;> omega)
  refine ⟨l8, _, _, _, rfl, rfl, .of (o8 _ _ upd_same (s7.ne_new n8)), hm, ?_⟩
  have o68 : Off p H6 H8 := o7.trans ((off_new n8).trans o8)
  -- the numbers
  refine ⟨_, rfl, p, 1, rfl, s8, by decide, by decide, fun D1 ns1 H9 hD1 l1 nb1 eD1 s9 o9 => ?_⟩
  obtain ⟨total, rfl⟩ : ∃ total, ns1 = [total] := by
    match ns1, l1 with
    | [x], _ => exact ⟨x, rfl⟩
  have tb := nb1 total List.mem_cons_self
  refine ⟨D1, _, _, _, rfl, rfl, .of eD1, atI_nat (j := 0) rfl, ?_⟩
  refine ⟨_, rfl, _, rfl, p, many, rfl, s9, by omega, by omega, fun B bs H10 hBp bl bb eB s10 o10 => ?_⟩
  refine ⟨_, rfl, _, rfl, p, many, rfl, s10, by omega, by omega, fun L ls H11 hLp ll lb eL s11 o11 => ?_⟩
  have eB11 := o11 _ _ eB hBp
  have o611 : Off p H6 H11 := (o68.trans o9).trans (o10.trans o11)
  have eW11 := o611 _ _ eW nWp
  refine ⟨_, rfl, _, rfl, B, _, rfl, .inl (.of eB11), fun c1 nc1 => ⟨_, rfl, L, _, rfl, .inl (.of (same_upd nc1 _ _ eL)), fun c2 nc2 => ⟨(by show 3 ≤ sizeLine; decide), fun t0 nt0 => ?_⟩⟩⟩
  have y1 := same_upd (o := .lst (bs.map V.int)) nc1
  have y2 := same_upd (o := .lst (ls.map V.int)) nc2
  have y3 := same_upd (o := .tup [.int total, .ref c1, .ref c2]) nt0
  have s1112 := (y1.trans y2).trans y3
  have nc1p := s11.ne_new nc1
  have nc2p := (s11.keep nc1).ne_new nc2
  have ec1 : (upd (upd (upd H11 c1 (.lst (bs.map V.int))) c2 (.lst (ls.map V.int))) t0 (.tup [.int total, .ref c1, .ref c2])) c1 = some (.lst (bs.map V.int)) := y3 _ _ (y2 _ _ upd_same)
  have ec2 : (upd (upd (upd H11 c1 (.lst (bs.map V.int))) c2 (.lst (ls.map V.int))) t0 (.tup [.int total, .ref c1, .ref c2])) c2 = some (.lst (ls.map V.int)) := y3 _ _ upd_same
  have et0 : (upd (upd (upd H11 c1 (.lst (bs.map V.int))) c2 (.lst (ls.map V.int))) t0 (.tup [.int total, .ref c1, .ref c2])) t0 = some (.tup [.int total, .ref c1, .ref c2]) := upd_same
  generalize (upd (upd (upd H11 c1 (.lst (bs.map V.int))) c2 (.lst (ls.map V.int))) t0 (.tup [.int total, .ref c1, .ref c2])) = H12 at s1112 ec1 ec2 et0 ⊢
  have s12 := s11.same s1112
  have eW12 := s1112 _ _ eW11
  have wkI : ∀ (ns : List Int) (x : V), x ∈ ns.map V.int → WK H12 x := fun ns x hx => by
    obtain ⟨i, _, rfl⟩ := List.mem_map.mp hx
    exact .inl ⟨i, rfl⟩
  have ne_of : ∀ ns : List Int, (ns.length : Int) = many → ns.map V.int ≠ [] := fun ns h z => by
    have := congrArg List.length z
    rw [List.length_map] at this
    simp at this
    rw [this] at h
    simp at h
    omega
  have st12 : St3 H12 p (.int total) (.ref c1) (.ref c2) (some (bs.map V.int)) (some (ls.map V.int)) :=
    ⟨.inl ⟨_, rfl⟩, ⟨c1, rfl, nc1p, ec1, by rw [List.length_map]; omega, wkI bs⟩, ⟨c2, rfl, nc2p, ec2, by rw [List.length_map]; omega, wkI ls⟩, fun xs h => by cases h; exact ne_of bs bl⟩
  refine ⟨_, rfl, W, rfl, ⟨_, .of eW12⟩, for_list (K := K) (a := W) (xs := ws.map V.int) (fun i σ H' => ∃ (t : Addr) (v0 v1 v2 : V) (o1 o2 : Option (List V)) (v10' : Option V), σ = [some (.ref a), some (.int z), some (.ref p), some (.int (kI c)), some (.ref W), some (.int many), some (.int total), some (.ref B), some (.ref L), some (.ref t), v10', v11, v12] ∧ H' t = some (.tup [v0, v1, v2]) ∧ St3 H' p v0 v1 v2 o1 o2 ∧ ((i = 0 ∧ o1 = some (bs.map V.int) ∧ o2 = some (ls.map V.int)) ∨ (0 < i ∧ Bad c v0 o1 o2)) ∧ Src H' p ∧ Off p H12 H')
    ⟨t0, _, _, _, _, _, v10, rfl, et0, st12, .inl ⟨rfl, rfl, rfl⟩, s12, .refl⟩ (fun i σ H' _ h => by obtain ⟨_, _, _, _, _, _, _, _, _, _, _, _, o'⟩ := h; exact .of (o' _ _ eW12 nWp)) ?_ ?_⟩
  · rintro i y σ H' hi ⟨t, v0, v1, v2, o1, o2, v10', rfl, et, st, h, src, off⟩
    obtain ⟨way, rfl, hway⟩ := int_at hi
    obtain ⟨y0, y5, y4⟩ := wB i way hway
    have spoil : ∀ H'', Same H' H'' → (way = 4 → o2 ≠ some []) → spSpoilt [.ref p, .int (kI c), .ref t, .int way] H'' (fun v H3 => ∃ (t : Addr) (v0 v1 v2 : V) (o1 o2 : Option (List V)) (v10' : Option V), ([some (.ref a), some (.int z), some (.ref p), some (.int (kI c)), some (.ref W), some (.int many), some (.int total), some (.ref B), some (.ref L), some v, some (.int way), v11, v12] : List (Option V)) = [some (.ref a), some (.int z), some (.ref p), some (.int (kI c)), some (.ref W), some (.int many), some (.int total), some (.ref B), some (.ref L), some (.ref t), v10', v11, v12] ∧ H3 t = some (.tup [v0, v1, v2]) ∧ St3 H3 p v0 v1 v2 o1 o2 ∧ ((i + 1 = 0 ∧ o1 = some (bs.map V.int) ∧ o2 = some (ls.map V.int)) ∨ (0 < i + 1 ∧ Bad c v0 o1 o2)) ∧ Src H3 p ∧ Off p H12 H3) E0 := fun H'' s'' h4 => by
      refine ⟨p, t, c, way, v0, v1, v2, o1, o2, rfl, src.same s'', y0, y5, s'' _ _ et, st.same s'', ?_, h4, fun h5 => ?_, fun t' w0 w1 w2 o1' o2' H3 et' st' bad s' o' => ⟨t', w0, w1, w2, o1', o2', _, rfl, et', st', .inr ⟨by omega, bad⟩, s', (off.trans (.of s'')).trans o'⟩⟩
      · rcases h with ⟨_, h1, h2⟩ | ⟨_, hb⟩
        · exact .inr ⟨_, _, h1, h2⟩
        · exact .inl hb
      · rcases h with ⟨_, h1, h2⟩ | ⟨hi0, _⟩
        · exact ⟨_, _, h1, h2, by rw [List.length_map, List.length_map]; omega, ne_of ls ll, by rw [List.length_map]; omega⟩
        · have := y4 hi0
          omega
    by_cases hw : way = 4
    · refine ⟨_, rfl, rfl, false, by rw [hw, decide_eq_true rfl]; rfl, iteF ⟨_, rfl, t, _, _, _, rfl, rfl, .of et, atI_nat (j := 2) rfl, (by show 0 ≤ sizeLine; decide), fun e0 ne0 => ⟨e0, rfl, upd_same, ?_⟩⟩⟩
      have se := same_upd (o := .lst []) ne0
      cases o2 with
      | none => exact .inl ⟨NoL.same st.s2 se, true, rfl, iteT ⟨_, rfl, _, rfl, _, rfl, _, rfl, spoil _ se (fun _ z => by cases z)⟩⟩
      | some ys =>
        obtain ⟨b, rfl, nbp, eb, _, _⟩ := st.s2
        refine .inr ⟨b, ys, rfl, se _ _ eb, _, rfl, ?_⟩
        cases ys with
        | nil =>
          refine iteF ⟨t, v0, v1, _, o1, some [], _, rfl, se _ _ et, st.same se, .inr ⟨by omega, ?_⟩, src.same se, off.trans (.of se)⟩
          rcases h with ⟨_, _, h2⟩ | ⟨_, hb⟩
          · exact absurd (Option.some.inj h2).symm (ne_of ls ll)
          · exact hb
        | cons y yr => exact iteT ⟨_, rfl, _, rfl, _, rfl, _, rfl, spoil _ se (fun _ z => by cases z)⟩
    · refine ⟨_, rfl, rfl, true, by rw [decide_eq_false fun z => hw (V.int.inj z)]; rfl, iteT (iteT ?_)⟩
      exact ⟨_, rfl, _, rfl, _, rfl, _, rfl, spoil _ (.refl _) (fun h => absurd h hw)⟩
  rintro σ H13 ⟨t, v0, v1, v2, o1, o2, v10', rfl, et, st, h, s13, o13⟩
  have bad : Bad c v0 o1 o2 := by
    rcases h with ⟨h, _⟩ | ⟨_, hb⟩
    · rw [List.length_map] at h
      omega
    · exact hb
  -- kept
  have et13 : SqT K H13 t [v0, v1, v2] := .of et
  have seqP : ∀ {v : V} {o : Option (List V)}, seqV H13 p v o → (NoL H13 v ∧ plainV v) ∨ ∃ a xs, v = .ref a ∧ H13 a = some (.lst xs) ∧ ∀ x ∈ xs, plainV x := fun {v o} h => by
    cases o with
    | none => exact .inl ⟨h, NoL.plain h⟩
    | some xs =>
      obtain ⟨a, rfl, _, e, _, wk⟩ := h
      exact .inr ⟨a, xs, rfl, e, fun x hx => (wk x hx).plain⟩
  have cop : ∀ (i : Nat) (x : V), [v0, v1, v2][i]? = some x → (NoL H13 x ∧ plainV x) ∨ ∃ a xs, x = .ref a ∧ H13 a = some (.lst xs) ∧ ∀ z ∈ xs, plainV z := fun i x hx => by
    match i, hx with
    | 0, hx =>
      cases hx
      rcases st.w0 with ⟨i, rfl⟩ | ⟨b, rfl⟩ | hn
      · exact .inl ⟨.int _, .inl rfl⟩
      · exact .inl ⟨.bl _, .inl rfl⟩
      · cases hn with
        | non => exact .inl ⟨.non, .inl rfl⟩
        | str x => exact .inl ⟨.str x, .inl rfl⟩
        | lst e hp => exact .inr ⟨_, _, rfl, e, hp⟩
        | tup e => exact .inl ⟨.tup e, .inr ⟨_, rfl⟩⟩
        | dK e => exact .inl ⟨.dK e, .inr ⟨_, rfl⟩⟩
    | 1, hx =>
      cases hx
      exact seqP st.s1
    | 2, hx =>
      cases hx
      exact seqP st.s2
  refine ⟨_, rfl, t, rfl, ⟨_, .of et⟩, fun D nD => lc_it (walk_tup (K := K) (a := t) (xs := [v0, v1, v2])) (fun i H' => ∃ ks : List V, ks.length = i ∧ H' D = some (.lst ks) ∧ (∀ (j : Nat) x y, [v0, v1, v2][j]? = some x → ks[j]? = some y → SameD D H' x y) ∧ Same H13 H') ⟨[], rfl, upd_same, (by intro j x y _ h; rw [List.getElem?_nil] at h; cases h), same_upd nD⟩ (fun i H' _ h => by obtain ⟨_, _, _, _, s'⟩ := h; exact .of (s' _ _ et)) ?_ ?_⟩
  · rintro i x H' H'' hi ⟨ks, kl, eD, hk, sH⟩ ⟨rfl, hx⟩
    have fin : ∀ (y : V) (H4 : Hp), Same H'' H4 → SameD D H4 x y → ∃ acc, H4 D = some (.lst acc) ∧ acc.length < sizeLine ∧ ∃ ks : List V, ks.length = i + 1 ∧ (upd H4 D (.lst (acc ++ [y]))) D = some (.lst ks) ∧ (∀ (j : Nat) x y', [v0, v1, v2][j]? = some x → ks[j]? = some y' → SameD D (upd H4 D (.lst (acc ++ [y]))) x y') ∧ Same H13 (upd H4 D (.lst (acc ++ [y]))) := fun y H4 s4 hxy => by
      refine ⟨ks, s4 _ _ eD, big (by have : i < 3 := hi; omega), ks ++ [y], ?_, upd_same, ?_, same_mut nD (sH.trans s4)⟩
      · rw [List.length_append, kl]
        rfl
      · intro j x' y' hj hy'
        rcases Nat.lt_or_ge j ks.length with hlt | hge
        · rw [List.getElem?_append_left hlt] at hy'
          exact ((hk j x' y' hj hy').same s4).upd
        · rw [List.getElem?_append_right hge] at hy'
          have hj0 : j - ks.length = 0 := by
            have := (List.getElem?_eq_some_iff.mp hy').1
            simp at this
            omega
          rw [hj0] at hy'
          cases hy'
          have : j = i := by omega
          rw [this, hx] at hj
          cases hj
          exact hxy.upd
    refine ⟨rfl, yes_if ⟨_, rfl, x, rfl, ?_⟩⟩
    rcases cop i x hx with ⟨nl, pl⟩ | ⟨b, xs, rfl, eb, pl⟩
    · exact .inl ⟨nl.same sH, fin x H'' (.refl _) (.inl ⟨rfl, pl⟩)⟩
    · refine .inr ⟨b, xs, rfl, sH _ _ eb, fun b2 nb2 => ?_⟩
      have s2 := same_upd (o := .lst xs) nb2
      exact fin (.ref b2) _ s2 (.inr ⟨b, b2, xs, rfl, rfl, ne_of_none eb nD, (ne_of_none eD nb2).symm, s2 _ _ (sH _ _ eb), upd_same, pl⟩)
  rintro H14 ⟨ks, kl, eD, hk, s14⟩
  have st14 := st.same s14
  have et14 := s14 _ _ et
  have eB14 := s14 _ _ (o13 _ _ (s1112 _ _ eB11) hBp)
  have eL14 := s14 _ _ (o13 _ _ (s1112 _ _ eL) hLp)
  have fin : ∀ H', Same H14 H' → Same HB H' := fun H' s' b o hb' => by
    have hbp : b ≠ p := ne_of_none (sm _ _ hb') np
    exact s' _ _ (s14 _ _ (o13 _ _ (s1112 _ _ (o611 _ _ (o36 _ _ (sm3 _ _ (sm _ _ hb')) hbp) hbp)) hbp))
  refine ⟨fun σ H' => σ = [some (.ref a), some (.int z), some (.ref p), some (.int (kI c)), some (.ref W), some (.int many), some (.int total), some (.ref B), some (.ref L), some (.ref t), v10', some (.ref D), v12] ∧ Same H14 H', ?_, ?_⟩
  · refine ⟨_, rfl, _, rfl, p, t, c, v0, v1, v2, o1, o2, rfl, et14, st14.w0, st14.s1, st14.s2, bad, fun H15 s15 => ⟨true, rfl, iteF ⟨_, rfl, t, _, rfl, .inr (.of (s15 _ _ et14)), fun l nl => ?_⟩⟩⟩
    have sl := same_upd (o := .lst [v0, v1, v2]) nl
    exact ⟨_, rfl, l, D, _, _, rfl, rfl, upd_same, sl _ _ (s15 _ _ eD), kl.symm, (fun j x y hx hy => ((hk j x y hx hy).same (s15.trans sl)).to), false, rfl, iteF ⟨rfl, s15.trans sl⟩⟩
  rintro σ H15 ⟨rfl, s15⟩
  have lbw : (bs.map some).length = ls.length := by rw [List.length_map]; omega
  generalize hls : (bs.map some).zip ls = ps
  have zm : ∀ x ∈ ps, (∃ b ∈ bs, x.1 = some b) ∧ x.2 ∈ ls := fun x hx => by
    rw [← hls] at hx
    have h := List.of_mem_zip (show (x.1, x.2) ∈ (bs.map some).zip ls from hx)
    obtain ⟨b, hb', e⟩ := List.mem_map.mp h.1
    exact ⟨⟨b, hb', e.symm⟩, h.2⟩
  have l0 : ∀ x ∈ ps, 0 ≤ lim x ∧ lim x ≤ 1000000000000 := fun x hx => by
    obtain ⟨⟨b, hb', e⟩, h2⟩ := zm x hx
    unfold lim
    rw [e]
    exact bb b hb'
  have kn : ∀ x ∈ ps, x.1 ≠ none := fun x hx => by
    obtain ⟨⟨b, hb', e⟩, h2⟩ := zm x hx
    rw [e]
    simp
  have n1 : ps.length ≤ 60 := by
    rw [← hls, List.length_zip]
    omega
  have ec0 : bs.map V.int = ps.map fun x => ov x.1 := by
    rw [← hls, zip_fst_map ov (bs.map some) ls lbw, List.map_map]
    rfl
  have ew0 : ls.map V.int = ps.map fun x => V.int x.2 := by
    rw [← hls, zip_snd_map V.int (bs.map some) ls lbw]
  have good : Good ps := ⟨fun x hx => (lb _ (zm x hx).2).1, fun x hx => (l0 x hx).1⟩
  have sW0 := sum_nonneg (fun x : Pr => x.2) ps fun x hx => (lb _ (zm x hx).2).1
  have sW1 := mk_fits (fun x : Pr => x.2) ps 1000000000000 (fun x hx => (lb _ (zm x hx).2).2) (by decide)
  have sW2 : (ps.length : Int) * 1000000000000 ≤ 60 * 1000000000000 := Int.mul_le_mul_of_nonneg_right (by omega) (by decide)
  have ft : Fits total ps := ⟨good, tb.1, small_of (by omega), fun x hx => small_of (by have := l0 x hx; omega), small_of (by unfold sumW; omega), by omega⟩
  exact ⟨_, rfl, _, rfl, _, rfl, _, rfl, c, total, B, L, ps, rfl, ⟨by rw [← ec0]; exact s15 _ _ eB14, by rw [← ew0]; exact s15 _ _ eL14, fun _ => kn⟩, ft, fun H16 s16 => ⟨true, rfl, iteF ⟨⟨_, _, _, _, _, _, _, _, _, _, _, _, rfl⟩, fin _ (s15.trans s16)⟩⟩⟩
end

theorem all_mk {l : PySem.W.OpenLaw} {w : World} {K : PySem.W.Frag} {h : Heap} {mg : Str → Option Value} {fa : Addr} (X : K.In h) (G : h.Ns mainGlobals mg) (hfa : mg "law" = some (.ref fa))
    {f0 f1 f2 f3 f4 f5 f6 f7 f8 f9 f10 f11 f12 f13 f14 f15 f16 f17 f18 f19 f20 f21 f22 f23 f24 f25 : Addr} {od0 an0 od1 an1 od2 an2 od3 an3 od4 an4 od5 an5 od6 an6 od7 an7 od8 an8 od9 an9 od10 an10 od11 an11 od12 an12 od13 an13 od14 an14 od15 an15 od16 an16 od17 an17 od18 an18 od19 an19 od20 an20 od21 an21 od22 an22 od23 an23 od24 an24 od25 an25 : Option Addr} {sl0 sl1 sl2 sl3 sl4 sl5 sl6 sl7 sl8 sl9 sl10 sl11 sl12 sl13 sl14 sl15 sl16 sl17 sl18 sl19 sl20 sl21 sl22 sl23 sl24 sl25 : Array (Option Value)}
    {C_NoNumber C_NestError C_NoText C_NoName C_NoStyle C_NoTrack C_NoAsk C_NoTree C_NoPlace C_NoBox : Addr}
    {oc0 kV0 dc0 pm0 cd0 ct0 oc1 kV1 dc1 pm1 cd1 ct1 oc2 kV2 dc2 pm2 cd2 ct2 oc3 kV3 dc3 pm3 cd3 ct3 oc4 kV4 dc4 pm4 cd4 ct4 oc5 kV5 dc5 pm5 cd5 ct5 oc6 kV6 dc6 pm6 cd6 ct6 oc7 kV7 dc7 pm7 cd7 ct7 oc8 kV8 dc8 pm8 cd8 ct8 oc9 kV9 dc9 pm9 cd9 ct9 oc10 kV10 dc10 pm10 cd10 ct10 oc11 kV11 dc11 pm11 cd11 ct11 oc12 kV12 dc12 pm12 cd12 ct12 oc13 kV13 dc13 pm13 cd13 ct13 oc14 kV14 dc14 pm14 cd14 ct14 oc15 kV15 dc15 pm15 cd15 ct15 oc16 kV16 dc16 pm16 cd16 ct16 oc17 kV17 dc17 pm17 cd17 ct17 oc18 kV18 dc18 pm18 cd18 ct18 oc19 kV19 dc19 pm19 cd19 ct19 oc20 kV20 dc20 pm20 cd20 ct20 oc21 kV21 dc21 pm21 cd21 ct21 oc22 kV22 dc22 pm22 cd22 ct22 oc23 kV23 dc23 pm23 cd23 ct23 oc24 kV24 dc24 pm24 cd24 ct24 oc25 kV25 dc25 pm25 cd25 ct25 : Value}
    (a0 : PySem.W.nsIn K mainGlobals "is_whole" = some (some (.ref f0))) (l0 : K.lookup f0 = some ⟨oc0, od0, .func (PySem.W.fnOf "is_whole" "is_whole" (defArgs s_p_is_whole) (defBody s_p_is_whole) (defScope s_p_is_whole) .none kV0 dc0 pm0 an0 cd0 ct0), sl0⟩) (c0 : PySem.W.codeIn K cd0 "is_whole" = true) (k0 : PySem.W.keepIn K (.ref f0) = true)
    (a1 : PySem.W.nsIn K mainGlobals "is_count" = some (some (.ref f1))) (l1 : K.lookup f1 = some ⟨oc1, od1, .func (PySem.W.fnOf "is_count" "is_count" (defArgs s_p_is_count) (defBody s_p_is_count) (defScope s_p_is_count) .none kV1 dc1 pm1 an1 cd1 ct1), sl1⟩) (c1 : PySem.W.codeIn K cd1 "is_count" = true) (k1 : PySem.W.keepIn K (.ref f1) = true)
    (a2 : PySem.W.nsIn K mainGlobals "dealt" = some (some (.ref f2))) (l2 : K.lookup f2 = some ⟨oc2, od2, .func (PySem.W.fnOf "dealt" "dealt" (defArgs s_p_dealt) (defBody s_p_dealt) (defScope s_p_dealt) .none kV2 dc2 pm2 an2 cd2 ct2), sl2⟩) (c2 : PySem.W.codeIn K cd2 "dealt" = true) (k2 : PySem.W.keepIn K (.ref f2) = true)
    (a3 : PySem.W.nsIn K mainGlobals "levelled" = some (some (.ref f3))) (l3 : K.lookup f3 = some ⟨oc3, od3, .func (PySem.W.fnOf "levelled" "levelled" (defArgs s_p_levelled) (defBody s_p_levelled) (defScope s_p_levelled) .none kV3 dc3 pm3 an3 cd3 ct3), sl3⟩) (c3 : PySem.W.codeIn K cd3 "levelled" = true) (k3 : PySem.W.keepIn K (.ref f3) = true)
    (a4 : PySem.W.nsIn K mainGlobals "refuse_no_list" = some (some (.ref f4))) (l4 : K.lookup f4 = some ⟨oc4, od4, .func (PySem.W.fnOf "refuse_no_list" "refuse_no_list" (defArgs s_p_refuse_no_list) (defBody s_p_refuse_no_list) (defScope s_p_refuse_no_list) .none kV4 dc4 pm4 an4 cd4 ct4), sl4⟩) (c4 : PySem.W.codeIn K cd4 "refuse_no_list" = true) (k4 : PySem.W.keepIn K (.ref f4) = true)
    (a5 : PySem.W.nsIn K mainGlobals "refuse_no_counts" = some (some (.ref f5))) (l5 : K.lookup f5 = some ⟨oc5, od5, .func (PySem.W.fnOf "refuse_no_counts" "refuse_no_counts" (defArgs s_p_refuse_no_counts) (defBody s_p_refuse_no_counts) (defScope s_p_refuse_no_counts) .none kV5 dc5 pm5 an5 cd5 ct5), sl5⟩) (c5 : PySem.W.codeIn K cd5 "refuse_no_counts" = true) (k5 : PySem.W.keepIn K (.ref f5) = true)
    (a6 : PySem.W.nsIn K mainGlobals "refuse_no_weights" = some (some (.ref f6))) (l6 : K.lookup f6 = some ⟨oc6, od6, .func (PySem.W.fnOf "refuse_no_weights" "refuse_no_weights" (defArgs s_p_refuse_no_weights) (defBody s_p_refuse_no_weights) (defScope s_p_refuse_no_weights) .none kV6 dc6 pm6 an6 cd6 ct6), sl6⟩) (c6 : PySem.W.codeIn K cd6 "refuse_no_weights" = true) (k6 : PySem.W.keepIn K (.ref f6) = true)
    (a7 : PySem.W.nsIn K mainGlobals "by_level" = some (some (.ref f7))) (l7 : K.lookup f7 = some ⟨oc7, od7, .func (PySem.W.fnOf "by_level" "by_level" (defArgs s_p_by_level) (defBody s_p_by_level) (defScope s_p_by_level) .none kV7 dc7 pm7 an7 cd7 ct7), sl7⟩) (c7 : PySem.W.codeIn K cd7 "by_level" = true) (k7 : PySem.W.keepIn K (.ref f7) = true)
    (a8 : PySem.W.nsIn K mainGlobals "unbound" = some (some (.ref f8))) (l8 : K.lookup f8 = some ⟨oc8, od8, .func (PySem.W.fnOf "unbound" "unbound" (defArgs s_p_unbound) (defBody s_p_unbound) (defScope s_p_unbound) .none kV8 dc8 pm8 an8 cd8 ct8), sl8⟩) (c8 : PySem.W.codeIn K cd8 "unbound" = true) (k8 : PySem.W.keepIn K (.ref f8) = true)
    (a9 : PySem.W.nsIn K mainGlobals "cap_binds" = some (some (.ref f9))) (l9 : K.lookup f9 = some ⟨oc9, od9, .func (PySem.W.fnOf "cap_binds" "cap_binds" (defArgs s_p_cap_binds) (defBody s_p_cap_binds) (defScope s_p_cap_binds) .none kV9 dc9 pm9 an9 cd9 ct9), sl9⟩) (c9 : PySem.W.codeIn K cd9 "cap_binds" = true) (k9 : PySem.W.keepIn K (.ref f9) = true)
    (a10 : PySem.W.nsIn K mainGlobals "floor_binds" = some (some (.ref f10))) (l10 : K.lookup f10 = some ⟨oc10, od10, .func (PySem.W.fnOf "floor_binds" "floor_binds" (defArgs s_p_floor_binds) (defBody s_p_floor_binds) (defScope s_p_floor_binds) .none kV10 dc10 pm10 an10 cd10 ct10), sl10⟩) (c10 : PySem.W.codeIn K cd10 "floor_binds" = true) (k10 : PySem.W.keepIn K (.ref f10) = true)
    (a11 : PySem.W.nsIn K mainGlobals "running_parts" = some (some (.ref f11))) (l11 : K.lookup f11 = some ⟨oc11, od11, .func (PySem.W.fnOf "running_parts" "running_parts" (defArgs s_p_running_parts) (defBody s_p_running_parts) (defScope s_p_running_parts) .none kV11 dc11 pm11 an11 cd11 ct11), sl11⟩) (c11 : PySem.W.codeIn K cd11 "running_parts" = true) (k11 : PySem.W.keepIn K (.ref f11) = true)
    (a12 : PySem.W.nsIn K mainGlobals "in_lowest_terms" = some (some (.ref f12))) (l12 : K.lookup f12 = some ⟨oc12, od12, .func (PySem.W.fnOf "in_lowest_terms" "in_lowest_terms" (defArgs s_p_in_lowest_terms) (defBody s_p_in_lowest_terms) (defScope s_p_in_lowest_terms) .none kV12 dc12 pm12 an12 cd12 ct12), sl12⟩) (c12 : PySem.W.codeIn K cd12 "in_lowest_terms" = true) (k12 : PySem.W.keepIn K (.ref f12) = true)
    (a13 : PySem.W.nsIn K mainGlobals "_law_cell_at" = some (some (.ref f13))) (l13 : K.lookup f13 = some ⟨oc13, od13, .func (PySem.W.fnOf "_law_cell_at" "_law_cell_at" (defArgs s_cell_at) (defBody s_cell_at) (defScope s_cell_at) .none kV13 dc13 pm13 an13 cd13 ct13), sl13⟩) (c13 : PySem.W.codeIn K cd13 "_law_cell_at" = true) (k13 : PySem.W.keepIn K (.ref f13) = true)
    (a14 : PySem.W.nsIn K mainGlobals "_law_mixed" = some (some (.ref f14))) (l14 : K.lookup f14 = some ⟨oc14, od14, .func (PySem.W.fnOf "_law_mixed" "_law_mixed" (defArgs s_mixed) (defBody s_mixed) (defScope s_mixed) .none kV14 dc14 pm14 an14 cd14 ct14), sl14⟩) (c14 : PySem.W.codeIn K cd14 "_law_mixed" = true) (k14 : PySem.W.keepIn K (.ref f14) = true)
    (a15 : PySem.W.nsIn K mainGlobals "_law_source" = some (some (.ref f15))) (l15 : K.lookup f15 = some ⟨oc15, od15, .func (PySem.W.fnOf "_law_source" "_law_source" (defArgs s_source) (defBody s_source) (defScope s_source) .none kV15 dc15 pm15 an15 cd15 ct15), sl15⟩) (c15 : PySem.W.codeIn K cd15 "_law_source" = true) (k15 : PySem.W.keepIn K (.ref f15) = true)
    (a16 : PySem.W.nsIn K mainGlobals "_law_next" = some (some (.ref f16))) (l16 : K.lookup f16 = some ⟨oc16, od16, .func (PySem.W.fnOf "_law_next" "_law_next" (defArgs s_next) (defBody s_next) (defScope s_next) .none kV16 dc16 pm16 an16 cd16 ct16), sl16⟩) (c16 : PySem.W.codeIn K cd16 "_law_next" = true) (k16 : PySem.W.keepIn K (.ref f16) = true)
    (a17 : PySem.W.nsIn K mainGlobals "_law_deal" = some (some (.ref f17))) (l17 : K.lookup f17 = some ⟨oc17, od17, .func (PySem.W.fnOf "_law_deal" "_law_deal" (defArgs s_deal) (defBody s_deal) (defScope s_deal) .none kV17 dc17 pm17 an17 cd17 ct17), sl17⟩) (c17 : PySem.W.codeIn K cd17 "_law_deal" = true) (k17 : PySem.W.keepIn K (.ref f17) = true)
    (a18 : PySem.W.nsIn K mainGlobals "_law_numbers" = some (some (.ref f18))) (l18 : K.lookup f18 = some ⟨oc18, od18, .func (PySem.W.fnOf "_law_numbers" "_law_numbers" (defArgs s_numbers) (defBody s_numbers) (defScope s_numbers) .none kV18 dc18 pm18 an18 cd18 ct18), sl18⟩) (c18 : PySem.W.codeIn K cd18 "_law_numbers" = true) (k18 : PySem.W.keepIn K (.ref f18) = true)
    (a19 : PySem.W.nsIn K mainGlobals "_law_no_number" = some (some (.ref f19))) (l19 : K.lookup f19 = some ⟨oc19, od19, .func (PySem.W.fnOf "_law_no_number" "_law_no_number" (defArgs s_no_number) (defBody s_no_number) (defScope s_no_number) .none kV19 dc19 pm19 an19 cd19 ct19), sl19⟩) (c19 : PySem.W.codeIn K cd19 "_law_no_number" = true) (k19 : PySem.W.keepIn K (.ref f19) = true)
    (a20 : PySem.W.nsIn K mainGlobals "_law_no_list" = some (some (.ref f20))) (l20 : K.lookup f20 = some ⟨oc20, od20, .func (PySem.W.fnOf "_law_no_list" "_law_no_list" (defArgs s_no_list) (defBody s_no_list) (defScope s_no_list) .none kV20 dc20 pm20 an20 cd20 ct20), sl20⟩) (c20 : PySem.W.codeIn K cd20 "_law_no_list" = true) (k20 : PySem.W.keepIn K (.ref f20) = true)
    (a21 : PySem.W.nsIn K mainGlobals "_law_spoilt" = some (some (.ref f21))) (l21 : K.lookup f21 = some ⟨oc21, od21, .func (PySem.W.fnOf "_law_spoilt" "_law_spoilt" (defArgs s_spoilt) (defBody s_spoilt) (defScope s_spoilt) .none kV21 dc21 pm21 an21 cd21 ct21), sl21⟩) (c21 : PySem.W.codeIn K cd21 "_law_spoilt" = true) (k21 : PySem.W.keepIn K (.ref f21) = true)
    (a22 : PySem.W.nsIn K mainGlobals "_law_copy" = some (some (.ref f22))) (l22 : K.lookup f22 = some ⟨oc22, od22, .func (PySem.W.fnOf "_law_copy" "_law_copy" (defArgs s_copy) (defBody s_copy) (defScope s_copy) .none kV22 dc22 pm22 an22 cd22 ct22), sl22⟩) (c22 : PySem.W.codeIn K cd22 "_law_copy" = true) (k22 : PySem.W.keepIn K (.ref f22) = true)
    (a23 : PySem.W.nsIn K mainGlobals "_law_refused" = some (some (.ref f23))) (l23 : K.lookup f23 = some ⟨oc23, od23, .func (PySem.W.fnOf "_law_refused" "_law_refused" (defArgs s_refused) (defBody s_refused) (defScope s_refused) .none kV23 dc23 pm23 an23 cd23 ct23), sl23⟩) (c23 : PySem.W.codeIn K cd23 "_law_refused" = true) (k23 : PySem.W.keepIn K (.ref f23) = true)
    (a24 : PySem.W.nsIn K mainGlobals "_law_told" = some (some (.ref f24))) (l24 : K.lookup f24 = some ⟨oc24, od24, .func (PySem.W.fnOf "_law_told" "_law_told" (defArgs s_told) (defBody s_told) (defScope s_told) .none kV24 dc24 pm24 an24 cd24 ct24), sl24⟩) (c24 : PySem.W.codeIn K cd24 "_law_told" = true) (k24 : PySem.W.keepIn K (.ref f24) = true)
    (a25 : PySem.W.nsIn K mainGlobals "law" = some (some (.ref f25))) (l25 : K.lookup f25 = some ⟨oc25, od25, .func (PySem.W.fnOf "law" "law" (defArgs s_law) (defBody s_law) (defScope s_law) .none kV25 dc25 pm25 an25 cd25 ct25), sl25⟩) (c25 : PySem.W.codeIn K cd25 "law" = true) (k25 : PySem.W.keepIn K (.ref f25) = true)
    (aC_NoNumber : PySem.W.nsIn K mainGlobals "NoNumber" = some (some (.ref C_NoNumber)))
    (aC_NestError : PySem.W.nsIn K mainGlobals "NestError" = some (some (.ref C_NestError)))
    (aC_NoText : PySem.W.nsIn K mainGlobals "NoText" = some (some (.ref C_NoText)))
    (aC_NoName : PySem.W.nsIn K mainGlobals "NoName" = some (some (.ref C_NoName)))
    (aC_NoStyle : PySem.W.nsIn K mainGlobals "NoStyle" = some (some (.ref C_NoStyle)))
    (aC_NoTrack : PySem.W.nsIn K mainGlobals "NoTrack" = some (some (.ref C_NoTrack)))
    (aC_NoAsk : PySem.W.nsIn K mainGlobals "NoAsk" = some (some (.ref C_NoAsk)))
    (aC_NoTree : PySem.W.nsIn K mainGlobals "NoTree" = some (some (.ref C_NoTree)))
    (aC_NoPlace : PySem.W.nsIn K mainGlobals "NoPlace" = some (some (.ref C_NoPlace)))
    (aC_NoBox : PySem.W.nsIn K mainGlobals "NoBox" = some (some (.ref C_NoBox)))
    (xi_NoNumber : PySem.W.excIn K C_NoNumber [.type "ValueError", .type "Exception", .type "BaseException", .type "object"] "ValueError.__new__" = true)
    (kk_NoNumber : PySem.W.keepIn K (.ref C_NoNumber) = true)
    (bb_NoNumber : PySem.W.subIn K (.ref C_NoNumber) (.type "BaseException") = some true)
    (tt_NoNumber : PySem.W.typeIn K (.ref C_NoNumber) = some (.type "type"))
    (hg_NoNumber : PySem.W.findIn K (.ref C_NoNumber) "__getattribute__" = some (some (.builtin "BaseException.__getattribute__")))
    (hk_NoNumber : PySem.W.findIn K (.ref C_NoNumber) "__getattr__" = some none)
    (hd_NoNumber : PySem.W.hasDictIn K C_NoNumber = true)
    (ha_NoNumber : PySem.W.findIn K (.ref C_NoNumber) "__class__" = some (some (.builtin "object.__class__")))
    (hn_NoNumber : PySem.W.specialIn K (.builtin "object.__class__") "__get__" = some (some (.builtin "getset_descriptor.__get__")))
    (ht_NoNumber : PySem.W.takesIn K (.builtin "object.__class__") = some true)
    (hm_NoNumber : PySem.W.mroIn K C_NoNumber (.type "object") = some true)
    (bd_NoNumber_NestError : PySem.W.subIn K (.ref C_NestError) (.type "BaseException") = some true)
    (dd_NoNumber_NestError : PySem.W.hasDictIn K C_NestError = true)
    (td_NoNumber_NestError : PySem.W.typeIn K (.ref C_NestError) = some (.type "type"))
    (sd_NoNumber_NestError : PySem.W.subIn K (.ref C_NoNumber) (.ref C_NestError) = some true)
    (kt_NoNumber_NoText : PySem.W.kitOne K (.ref C_NoNumber) (.ref C_NoText) = some false)
    (kt_NoNumber_NoName : PySem.W.kitOne K (.ref C_NoNumber) (.ref C_NoName) = some false)
    (kt_NoNumber_NoStyle : PySem.W.kitOne K (.ref C_NoNumber) (.ref C_NoStyle) = some false)
    (kt_NoNumber_NoTrack : PySem.W.kitOne K (.ref C_NoNumber) (.ref C_NoTrack) = some false)
    (kt_NoNumber_NoAsk : PySem.W.kitOne K (.ref C_NoNumber) (.ref C_NoAsk) = some false)
    (kt_NoNumber_NoTree : PySem.W.kitOne K (.ref C_NoNumber) (.ref C_NoTree) = some false)
    (kt_NoNumber_NoPlace : PySem.W.kitOne K (.ref C_NoNumber) (.ref C_NoPlace) = some false)
    (kt_NoNumber_NoBox : PySem.W.kitOne K (.ref C_NoNumber) (.ref C_NoBox) = some false)
    (kt_NoNumber_NoNumber : PySem.W.kitOne K (.ref C_NoNumber) (.ref C_NoNumber) = some true)
    (kv_NoNumber_ValueError : PySem.W.kitOne K (.ref C_NoNumber) (.type "ValueError") = some true)
    (z_isinstance : PySem.W.nsIn K mainGlobals "isinstance" = some none)
    (z_int : PySem.W.nsIn K mainGlobals "int" = some none)
    (z_bool : PySem.W.nsIn K mainGlobals "bool" = some none)
    (z_len : PySem.W.nsIn K mainGlobals "len" = some none)
    (z_zip : PySem.W.nsIn K mainGlobals "zip" = some none)
    (z_sum : PySem.W.nsIn K mainGlobals "sum" = some none)
    (z_list : PySem.W.nsIn K mainGlobals "list" = some none)
    (z_enumerate : PySem.W.nsIn K mainGlobals "enumerate" = some none)
    (z_range : PySem.W.nsIn K mainGlobals "range" = some none)
    (z_tuple : PySem.W.nsIn K mainGlobals "tuple" = some none)
    (z_ValueError : PySem.W.nsIn K mainGlobals "ValueError" = some none) :
    ∃ fd : FuncData, (∀ (s : Shared) (v : Value), BindsTo s fd ⟨[v], []⟩ [("_law_script", v)]) ∧ ∀ base : Heap, K.In base → base.Ns mainGlobals mg → FnOk l.prog w K mg base CX0 8 fa fd ["_law_script"] (spLaw K) := by
  have e := hfa.symm.trans (PySem.W.mg_of X G a25)
  cases e
  have H0 : Has K mg "is_whole" s_p_is_whole ["thing"] := has_mk (fun_mk (st := s_p_is_whole) l0 c0 k0) (PySem.W.mg_of X G a0) (fun _ _ _ _ _ _ us hl => match us, hl with | [_], _ => rfl)
  have H1 : Has K mg "is_count" s_p_is_count ["thing"] := has_mk (fun_mk (st := s_p_is_count) l1 c1 k1) (PySem.W.mg_of X G a1) (fun _ _ _ _ _ _ us hl => match us, hl with | [_], _ => rfl)
  have H2 : Has K mg "dealt" s_p_dealt ["total", "caps", "weights"] := has_mk (fun_mk (st := s_p_dealt) l2 c2 k2) (PySem.W.mg_of X G a2) (fun _ _ _ _ _ _ us hl => match us, hl with | [_, _, _], _ => rfl)
  have H3 : Has K mg "levelled" s_p_levelled ["total", "floors", "weights"] := has_mk (fun_mk (st := s_p_levelled) l3 c3 k3) (PySem.W.mg_of X G a3) (fun _ _ _ _ _ _ us hl => match us, hl with | [_, _, _], _ => rfl)
  have H4 : Has K mg "refuse_no_list" s_p_refuse_no_list ["thing"] := has_mk (fun_mk (st := s_p_refuse_no_list) l4 c4 k4) (PySem.W.mg_of X G a4) (fun _ _ _ _ _ _ us hl => match us, hl with | [_], _ => rfl)
  have H5 : Has K mg "refuse_no_counts" s_p_refuse_no_counts ["things"] := has_mk (fun_mk (st := s_p_refuse_no_counts) l5 c5 k5) (PySem.W.mg_of X G a5) (fun _ _ _ _ _ _ us hl => match us, hl with | [_], _ => rfl)
  have H6 : Has K mg "refuse_no_weights" s_p_refuse_no_weights ["weights", "many"] := has_mk (fun_mk (st := s_p_refuse_no_weights) l6 c6 k6) (PySem.W.mg_of X G a6) (fun _ _ _ _ _ _ us hl => match us, hl with | [_, _], _ => rfl)
  have H7 : Has K mg "by_level" s_p_by_level ["total", "limits", "weights", "binds"] := has_mk (fun_mk (st := s_p_by_level) l7 c7 k7) (PySem.W.mg_of X G a7) (fun _ _ _ _ _ _ us hl => match us, hl with | [_, _, _, _], _ => rfl)
  have H8 : Has K mg "unbound" s_p_unbound ["total", "limits", "weights", "binds"] := has_mk (fun_mk (st := s_p_unbound) l8 c8 k8) (PySem.W.mg_of X G a8) (fun _ _ _ _ _ _ us hl => match us, hl with | [_, _, _, _], _ => rfl)
  have H9 : Has K mg "cap_binds" s_p_cap_binds ["cap", "weight", "top", "bottom"] := has_mk (fun_mk (st := s_p_cap_binds) l9 c9 k9) (PySem.W.mg_of X G a9) (fun _ _ _ _ _ _ us hl => match us, hl with | [_, _, _, _], _ => rfl)
  have H10 : Has K mg "floor_binds" s_p_floor_binds ["floor", "weight", "top", "bottom"] := has_mk (fun_mk (st := s_p_floor_binds) l10 c10 k10) (PySem.W.mg_of X G a10) (fun _ _ _ _ _ _ us hl => match us, hl with | [_, _, _, _], _ => rfl)
  have H11 : Has K mg "running_parts" s_p_running_parts ["room", "weights"] := has_mk (fun_mk (st := s_p_running_parts) l11 c11 k11) (PySem.W.mg_of X G a11) (fun _ _ _ _ _ _ us hl => match us, hl with | [_, _], _ => rfl)
  have H12 : Has K mg "in_lowest_terms" s_p_in_lowest_terms ["top", "bottom"] := has_mk (fun_mk (st := s_p_in_lowest_terms) l12 c12 k12) (PySem.W.mg_of X G a12) (fun _ _ _ _ _ _ us hl => match us, hl with | [_, _], _ => rfl)
  have H13 : Has K mg "_law_cell_at" s_cell_at ["_law_script", "_law_k"] := has_mk (fun_mk (st := s_cell_at) l13 c13 k13) (PySem.W.mg_of X G a13) (fun _ _ _ _ _ _ us hl => match us, hl with | [_, _], _ => rfl)
  have H14 : Has K mg "_law_mixed" s_mixed ["_law_cell", "_law_k"] := has_mk (fun_mk (st := s_mixed) l14 c14 k14) (PySem.W.mg_of X G a14) (fun _ _ _ _ _ _ us hl => match us, hl with | [_, _], _ => rfl)
  have H15 : Has K mg "_law_source" s_source ["_law_cell"] := has_mk (fun_mk (st := s_source) l15 c15 k15) (PySem.W.mg_of X G a15) (fun _ _ _ _ _ _ us hl => match us, hl with | [_], _ => rfl)
  have H16 : Has K mg "_law_next" s_next ["_law_source_here", "_law_many"] := has_mk (fun_mk (st := s_next) l16 c16 k16) (PySem.W.mg_of X G a16) (fun _ _ _ _ _ _ us hl => match us, hl with | [_, _], _ => rfl)
  have H17 : Has K mg "_law_deal" s_deal ["_law_kind", "_law_total", "_law_bounds", "_law_weights"] := has_mk (fun_mk (st := s_deal) l17 c17 k17) (PySem.W.mg_of X G a17) (fun _ _ _ _ _ _ us hl => match us, hl with | [_, _, _, _], _ => rfl)
  have H18 : Has K mg "_law_numbers" s_numbers ["_law_source_here", "_law_many"] := has_mk (fun_mk (st := s_numbers) l18 c18 k18) (PySem.W.mg_of X G a18) (fun _ _ _ _ _ _ us hl => match us, hl with | [_, _], _ => rfl)
  have H19 : Has K mg "_law_no_number" s_no_number ["_law_source_here", "_law_kind"] := has_mk (fun_mk (st := s_no_number) l19 c19 k19) (PySem.W.mg_of X G a19) (fun _ _ _ _ _ _ us hl => match us, hl with | [_, _], _ => rfl)
  have H20 : Has K mg "_law_no_list" s_no_list ["_law_source_here", "_law_row"] := has_mk (fun_mk (st := s_no_list) l20 c20 k20) (PySem.W.mg_of X G a20) (fun _ _ _ _ _ _ us hl => match us, hl with | [_, _], _ => rfl)
  have H21 : Has K mg "_law_spoilt" s_spoilt ["_law_source_here", "_law_kind", "_law_handed", "_law_way"] := has_mk (fun_mk (st := s_spoilt) l21 c21 k21) (PySem.W.mg_of X G a21) (fun _ _ _ _ _ _ us hl => match us, hl with | [_, _, _, _], _ => rfl)
  have H22 : Has K mg "_law_copy" s_copy ["_law_thing"] := has_mk (fun_mk (st := s_copy) l22 c22 k22) (PySem.W.mg_of X G a22) (fun _ _ _ _ _ _ us hl => match us, hl with | [_], _ => rfl)
  have H23 : Has K mg "_law_refused" s_refused ["_law_kind", "_law_handed"] := has_mk (fun_mk (st := s_refused) l23 c23 k23) (PySem.W.mg_of X G a23) (fun _ _ _ _ _ _ us hl => match us, hl with | [_, _], _ => rfl)
  have H24 : Has K mg "_law_told" s_told ["_law_kind", "_law_total", "_law_bounds", "_law_weights"] := has_mk (fun_mk (st := s_told) l24 c24 k24) (PySem.W.mg_of X G a24) (fun _ _ _ _ _ _ us hl => match us, hl with | [_, _, _, _], _ => rfl)
  have gC_NoNumber := PySem.W.mg_of X G aC_NoNumber
  have qC_NoNumber := clsA_of gC_NoNumber
  have gC_NestError := PySem.W.mg_of X G aC_NestError
  have qC_NestError := clsA_of gC_NestError
  have gC_NoText := PySem.W.mg_of X G aC_NoText
  have qC_NoText := clsA_of gC_NoText
  have gC_NoName := PySem.W.mg_of X G aC_NoName
  have qC_NoName := clsA_of gC_NoName
  have gC_NoStyle := PySem.W.mg_of X G aC_NoStyle
  have qC_NoStyle := clsA_of gC_NoStyle
  have gC_NoTrack := PySem.W.mg_of X G aC_NoTrack
  have qC_NoTrack := clsA_of gC_NoTrack
  have gC_NoAsk := PySem.W.mg_of X G aC_NoAsk
  have qC_NoAsk := clsA_of gC_NoAsk
  have gC_NoTree := PySem.W.mg_of X G aC_NoTree
  have qC_NoTree := clsA_of gC_NoTree
  have gC_NoPlace := PySem.W.mg_of X G aC_NoPlace
  have qC_NoPlace := clsA_of gC_NoPlace
  have gC_NoBox := PySem.W.mg_of X G aC_NoBox
  have qC_NoBox := clsA_of gC_NoBox
  have T : Txt K mg := ⟨H0, H1, H2, H3, H4, H5, H6, H7, H8, H9, H10, H11, H12, H13, H14, H15, H16, H17, H18, H19, H20, H21, H22, H23, H24, ⟨by rw [qC_NoNumber]; exact gC_NoNumber, by rw [qC_NoNumber]; exact xi_NoNumber, by rw [qC_NoNumber]; exact kk_NoNumber, by rw [qC_NoNumber]; exact bb_NoNumber, by rw [qC_NoNumber]; exact tt_NoNumber, by rw [qC_NoNumber]; exact ⟨hg_NoNumber, hk_NoNumber, bb_NoNumber, hd_NoNumber, ha_NoNumber, hn_NoNumber, ht_NoNumber, hm_NoNumber⟩⟩, ⟨by rw [qC_NestError]; exact gC_NestError, by rw [qC_NoNumber, qC_NestError]; exact PySem.W.exm_ref bd_NoNumber_NestError dd_NoNumber_NestError td_NoNumber_NestError sd_NoNumber_NestError⟩, ⟨by rw [qC_NoText]; exact gC_NoText, by rw [qC_NoNumber, qC_NoText]; exact kt_NoNumber_NoText⟩, ⟨by rw [qC_NoName]; exact gC_NoName, by rw [qC_NoNumber, qC_NoName]; exact kt_NoNumber_NoName⟩, ⟨by rw [qC_NoStyle]; exact gC_NoStyle, by rw [qC_NoNumber, qC_NoStyle]; exact kt_NoNumber_NoStyle⟩, ⟨by rw [qC_NoTrack]; exact gC_NoTrack, by rw [qC_NoNumber, qC_NoTrack]; exact kt_NoNumber_NoTrack⟩, ⟨by rw [qC_NoAsk]; exact gC_NoAsk, by rw [qC_NoNumber, qC_NoAsk]; exact kt_NoNumber_NoAsk⟩, ⟨by rw [qC_NoTree]; exact gC_NoTree, by rw [qC_NoNumber, qC_NoTree]; exact kt_NoNumber_NoTree⟩, ⟨by rw [qC_NoPlace]; exact gC_NoPlace, by rw [qC_NoNumber, qC_NoPlace]; exact kt_NoNumber_NoPlace⟩, ⟨by rw [qC_NoBox]; exact gC_NoBox, by rw [qC_NoNumber, qC_NoBox]; exact kt_NoNumber_NoBox⟩, ⟨by rw [qC_NoNumber]; exact gC_NoNumber, by rw [qC_NoNumber]; exact kt_NoNumber_NoNumber⟩, (by rw [qC_NoNumber]; exact kv_NoNumber_ValueError), PySem.W.mg_none_of X G z_isinstance, PySem.W.mg_none_of X G z_int, PySem.W.mg_none_of X G z_bool, PySem.W.mg_none_of X G z_len, PySem.W.mg_none_of X G z_zip, PySem.W.mg_none_of X G z_sum, PySem.W.mg_none_of X G z_list, PySem.W.mg_none_of X G z_enumerate, PySem.W.mg_none_of X G z_range, PySem.W.mg_none_of X G z_tuple, PySem.W.mg_none_of X G z_ValueError⟩
  exact ⟨_, fun s v => .of_eq rfl, fun base _ _ => ok_law (fun_mk (st := s_law) l25 c25 k25) T⟩
end K02
open PySem PySem.W PyProof.Rows
set_option maxRecDepth 100000 in
set_option maxHeartbeats 0 in
theorem PySem.Challenge.cw_nestlaid_k02_what_cannot_be_dealt_holds : PySem.Challenge.rw_nestlaid_k02_what_cannot_be_dealt.Holds := by
  w_on; o_law; k_head; (case hw => w_witness2)
  k_fill
  refine L2.walk_of (l := PySem.Challenge.rw_nestlaid_k02_what_cannot_be_dealt) (n := 63) (k := 8) (x := "_law_script") (CX := fun _ => L2.CX0) (sp := fun w => K02.spLaw _) rfl (by decide) rfl ⟨rfl, by decide, by decide⟩ (fun w h Y => PySem.W.kIn_of Y) ?F (fun _ _ a ns hl _ hS => ⟨a, ns, rfl, hS, hl, fun _ => rfl⟩) (fun _ _ _ _ _ h => h)
  case F =>
    intro w mg fa h KX G hmg
    refine' K02.all_mk KX G hmg ?a0 ?l0 ?c0 ?k0 ?a1 ?l1 ?c1 ?k1 ?a2 ?l2 ?c2 ?k2 ?a3 ?l3 ?c3 ?k3 ?a4 ?l4 ?c4 ?k4 ?a5 ?l5 ?c5 ?k5 ?a6 ?l6 ?c6 ?k6 ?a7 ?l7 ?c7 ?k7 ?a8 ?l8 ?c8 ?k8 ?a9 ?l9 ?c9 ?k9 ?a10 ?l10 ?c10 ?k10 ?a11 ?l11 ?c11 ?k11 ?a12 ?l12 ?c12 ?k12 ?a13 ?l13 ?c13 ?k13 ?a14 ?l14 ?c14 ?k14 ?a15 ?l15 ?c15 ?k15 ?a16 ?l16 ?c16 ?k16 ?a17 ?l17 ?c17 ?k17 ?a18 ?l18 ?c18 ?k18 ?a19 ?l19 ?c19 ?k19 ?a20 ?l20 ?c20 ?k20 ?a21 ?l21 ?c21 ?k21 ?a22 ?l22 ?c22 ?k22 ?a23 ?l23 ?c23 ?k23 ?a24 ?l24 ?c24 ?k24 ?a25 ?l25 ?c25 ?k25 ?aC_NoNumber ?aC_NestError ?aC_NoText ?aC_NoName ?aC_NoStyle ?aC_NoTrack ?aC_NoAsk ?aC_NoTree ?aC_NoPlace ?aC_NoBox ?xi_NoNumber ?kk_NoNumber ?bb_NoNumber ?tt_NoNumber ?hg_NoNumber ?hk_NoNumber ?hd_NoNumber ?ha_NoNumber ?hn_NoNumber ?ht_NoNumber ?hm_NoNumber ?bd_NoNumber_NestError ?dd_NoNumber_NestError ?td_NoNumber_NestError ?sd_NoNumber_NestError ?kt_NoNumber_NoText ?kt_NoNumber_NoName ?kt_NoNumber_NoStyle ?kt_NoNumber_NoTrack ?kt_NoNumber_NoAsk ?kt_NoNumber_NoTree ?kt_NoNumber_NoPlace ?kt_NoNumber_NoBox ?kt_NoNumber_NoNumber ?kv_NoNumber_ValueError ?z_isinstance ?z_int ?z_bool ?z_len ?z_zip ?z_sum ?z_list ?z_enumerate ?z_range ?z_tuple ?z_ValueError
    (case a0 => k_is); (case l0 => k_is); (case c0 => k_is); (case k0 => k_is)
    (case a1 => k_is); (case l1 => k_is); (case c1 => k_is); (case k1 => k_is)
    (case a2 => k_is); (case l2 => k_is); (case c2 => k_is); (case k2 => k_is)
    (case a3 => k_is); (case l3 => k_is); (case c3 => k_is); (case k3 => k_is)
    (case a4 => k_is); (case l4 => k_is); (case c4 => k_is); (case k4 => k_is)
    (case a5 => k_is); (case l5 => k_is); (case c5 => k_is); (case k5 => k_is)
    (case a6 => k_is); (case l6 => k_is); (case c6 => k_is); (case k6 => k_is)
    (case a7 => k_is); (case l7 => k_is); (case c7 => k_is); (case k7 => k_is)
    (case a8 => k_is); (case l8 => k_is); (case c8 => k_is); (case k8 => k_is)
    (case a9 => k_is); (case l9 => k_is); (case c9 => k_is); (case k9 => k_is)
    (case a10 => k_is); (case l10 => k_is); (case c10 => k_is); (case k10 => k_is)
    (case a11 => k_is); (case l11 => k_is); (case c11 => k_is); (case k11 => k_is)
    (case a12 => k_is); (case l12 => k_is); (case c12 => k_is); (case k12 => k_is)
    (case a13 => k_is); (case l13 => k_is); (case c13 => k_is); (case k13 => k_is)
    (case a14 => k_is); (case l14 => k_is); (case c14 => k_is); (case k14 => k_is)
    (case a15 => k_is); (case l15 => k_is); (case c15 => k_is); (case k15 => k_is)
    (case a16 => k_is); (case l16 => k_is); (case c16 => k_is); (case k16 => k_is)
    (case a17 => k_is); (case l17 => k_is); (case c17 => k_is); (case k17 => k_is)
    (case a18 => k_is); (case l18 => k_is); (case c18 => k_is); (case k18 => k_is)
    (case a19 => k_is); (case l19 => k_is); (case c19 => k_is); (case k19 => k_is)
    (case a20 => k_is); (case l20 => k_is); (case c20 => k_is); (case k20 => k_is)
    (case a21 => k_is); (case l21 => k_is); (case c21 => k_is); (case k21 => k_is)
    (case a22 => k_is); (case l22 => k_is); (case c22 => k_is); (case k22 => k_is)
    (case a23 => k_is); (case l23 => k_is); (case c23 => k_is); (case k23 => k_is)
    (case a24 => k_is); (case l24 => k_is); (case c24 => k_is); (case k24 => k_is)
    (case a25 => k_is); (case l25 => k_is); (case c25 => k_is); (case k25 => k_is)
    (case aC_NoNumber => k_is); (case aC_NestError => k_is); (case aC_NoText => k_is); (case aC_NoName => k_is)
    (case aC_NoStyle => k_is); (case aC_NoTrack => k_is); (case aC_NoAsk => k_is); (case aC_NoTree => k_is)
    (case aC_NoPlace => k_is); (case aC_NoBox => k_is); (case xi_NoNumber => k_exc); (case kk_NoNumber => k_is)
    (case bb_NoNumber => k_is); (case tt_NoNumber => k_is); (case hg_NoNumber => k_is); (case hk_NoNumber => k_is)
    (case hd_NoNumber => k_is); (case ha_NoNumber => k_is); (case hn_NoNumber => k_is); (case ht_NoNumber => k_is)
    (case hm_NoNumber => k_is); (case bd_NoNumber_NestError => k_is); (case dd_NoNumber_NestError => k_is); (case td_NoNumber_NestError => k_is)
    (case sd_NoNumber_NestError => first | rfl | k_is); (case kt_NoNumber_NoText => first | rfl | k_is); (case kt_NoNumber_NoName => first | rfl | k_is); (case kt_NoNumber_NoStyle => first | rfl | k_is)
    (case kt_NoNumber_NoTrack => first | rfl | k_is); (case kt_NoNumber_NoAsk => first | rfl | k_is); (case kt_NoNumber_NoTree => first | rfl | k_is); (case kt_NoNumber_NoPlace => first | rfl | k_is)
    (case kt_NoNumber_NoBox => first | rfl | k_is); (case kt_NoNumber_NoNumber => first | rfl | k_is); (case kv_NoNumber_ValueError => first | rfl | k_is); (case z_isinstance => k_is)
    (case z_int => k_is); (case z_bool => k_is); (case z_len => k_is); (case z_zip => k_is)
    (case z_sum => k_is); (case z_list => k_is); (case z_enumerate => k_is); (case z_range => k_is)
    (case z_tuple => k_is); (case z_ValueError => k_is)
