import PyProof.Rows.All
import Wide.All
import OpenK.AllK
import Wide.FinOn
import HandS.ForMost
import HandS.ForExc
import HandS.Wide
import HandS.Defaults
import HandS.IsInst
import HandS.FStr
import HandS.SortKw
import HandS.ReplaceLit
import HandS.ReplaceList
import KE.KMinKey
import PySem.Challenge.RW_nestlaid_k09_longest_and_wished
set_option Elab.async false
set_option linter.all false
set_option maxRecDepth 100000
set_option maxHeartbeats 4000000

/-! ### max(xs, default=d) of a list of ints -/
namespace MxD
open PySem PySem.Spec PyProof.Rows L2
theorem args_d (a v : Value) : argsOk "max" ⟨[a], [(Str.ofString "default", v)]⟩ := by
  unfold argsOk
  kernel_rfl
abbrev boxO (vs : Array Value) (c : Nat) : Obj := { cls := .type "list", dict := none, data := .seq vs c, slots := #[] }
abbrev nextC (I S : Addr) (kw : List (Str × Value)) : Code := .builtin "max.loop" ⟨[.ref I, .none, .ref S], kw⟩
theorem nm : (toString "max" ++ toString ".loop" : String) = "max.loop" := by decide
section
variable {prog : Program} {w : World} {A : Around} {R : Result → Shared → Prop} {I S : Addr} {fp wr : List Addr} {n : Nat} {P : Nat → Value → Prop} {St : Nat → Heap → Prop} {bt : Nat → Nat → Bool} {kw : List (Str × Value)}
theorem go (W : Walks prog w A.in1 I fp wr n P St) (cm : CmpOf prog w A.in1 .Gt P bt) (fS : S ∉ fp) : ∀ (k j : Nat) (s : Shared) (vb : Value) (c : Nat), n = j + 1 + k → St (j + 1) s.heap → P (argBest bt j) vb →
    s.heap.get? S = some (boxO #[vb, vb] c) → (∀ v g tk, P (argBest bt (n - 1)) v → (∀ b o, b ∉ wr → b ≠ S → s.heap.get? b = some o → g.get? b = some o) → R (.ok (.ret v)) { s with heap := g, toks := tk }) →
    codeAny (model prog w) A (nextC I S kw) R s := by
  have wS : S ∉ wr := fun z => fS (W.sub _ z)
  intro k
  induction k with
  | zero =>
    intro j s vb c en st pb eS fin
    subst en
    refine codeAny_builtin F.entry_max_loop ?_
    rw [Around.under_plainId F.plain_max_loop _]
    show wpAny _ A.in1 (seqItems? (.ref S) >>= _) _ _ s; refine wpAny_bind (wpAny_seqItems eS rfl ?_)
    show wpAny _ A.in1 (tryCatch (pyNext (.ref I)) _ >>= _) _ _ s; refine wpAny_bind (wpAny_tryCatch (W.done s _ _ st fun g tk kp => ?_))
    have eS2 := kp S _ wS eS
    show wpAny _ A.in1 (updateSeq S (fun _ => #[]) >>= _) _ _ _; refine wpAny_bind (wpAny_updateSeq eS2 rfl (wpAny_bind (wpAny_letGo (wpAny_pure ?_))))
    exact fin vb _ tk pb fun b o h1 h2 e => (Heap.get?_update_other _ _ h2.symm).trans (kp b o h1 e)
  | succ k ih =>
    intro j s vb c en st pb eS fin
    refine codeAny_builtin F.entry_max_loop ?_
    rw [Around.under_plainId F.plain_max_loop _]
    show wpAny _ A.in1 (seqItems? (.ref S) >>= _) _ _ s; refine wpAny_bind (wpAny_seqItems eS rfl ?_)
    show wpAny _ A.in1 (tryCatch (pyNext (.ref I)) _ >>= _) _ _ s; refine wpAny_bind (wpAny_tryCatch (W.item (j + 1) s _ _ (by omega) st fun v g tk pv st2 kp => ?_))
    have eS2 := kp S _ wS eS
    show wpAny _ A.in1 (tryCatch (holding [v, v] (richCompare .Gt v vb >>= _)) _ >>= _) _ _ _; refine wpAny_bind (wpAny_tryCatch (wpAny_holding (wpAny_bind (cm (j + 1) (argBest bt j) v vb _ _ _ pv pb ?_))))
    refine wpAny_bind (wpAny_holding (wpAny_truthy_bool (wpAny_bind (wpAny_letGo (wpAny_pure ?_)))))
    cases hb : bt (j + 1) (argBest bt j) with
    | true =>
      have pb2 : P (argBest bt (j + 1)) v := by simp only [argBest, hb, if_true]; exact pv
      simp only [if_true]
      refine wpAny_bind (wpAny_updateSeq eS2 rfl (wpAny_bind (wpAny_letGo ?_)))
      rw [nm]
      refine wpAny_pure ⟨plainId_quiet F.plain_max_loop _, ih (j + 1) _ v _ (by omega) (W.frame _ _ _ st2 fun b hb2 o e => ?_) pb2 (Heap.get?_update_self _ eS2 rfl) fun v2 g2 tk2 p2 kp2 => ?_⟩
      · exact (Heap.get?_update_other _ _ (fun z : S = b => fS (z ▸ hb2))).trans e
      · exact fin v2 g2 tk2 p2 fun b o h1 h2 e => kp2 b o h1 h2 ((Heap.get?_update_other _ _ h2.symm).trans (kp b o h1 e))
    | false =>
      have pb2 : P (argBest bt (j + 1)) vb := by simp only [argBest, hb, Bool.false_eq_true, if_false]; exact pb
      simp only [Bool.false_eq_true, if_false]
      refine wpAny_bind (wpAny_letGo ?_)
      rw [nm]
      exact wpAny_pure ⟨plainId_quiet F.plain_max_loop _, ih (j + 1) _ vb c (by omega) st2 pb2 eS2 fun v2 g2 tk2 p2 kp2 => fin v2 g2 tk2 p2 fun b o h1 h2 e => kp2 b o h1 h2 (kp b o h1 e)⟩
theorem first (W : Walks prog w A.in1 I fp wr n P St) (cm : CmpOf prog w A.in1 .Gt P bt) (fS : S ∉ fp) {d : Value} {nd : Str} {s : Shared} {c : Nat} (st : St 0 s.heap) (eS : s.heap.get? S = some (boxO #[] c))
    (fin : ∀ v g tk, 0 < n → P (argBest bt (n - 1)) v → (∀ b o, b ∉ wr → b ≠ S → s.heap.get? b = some o → g.get? b = some o) → R (.ok (.ret v)) { s with heap := g, toks := tk })
    (fin0 : n = 0 → ∀ g tk, (∀ b o, b ∉ wr → b ≠ S → s.heap.get? b = some o → g.get? b = some o) → R (.ok (.ret d)) { s with heap := g, toks := tk }) : codeAny (model prog w) A (nextC I S [(nd, d)]) R s := by
  have wS : S ∉ wr := fun z => fS (W.sub _ z)
  refine codeAny_builtin F.entry_max_loop ?_
  rw [Around.under_plainId F.plain_max_loop _]
  show wpAny _ A.in1 (seqItems? (.ref S) >>= _) _ _ s; refine wpAny_bind (wpAny_seqItems eS rfl ?_)
  show wpAny _ A.in1 (tryCatch (pyNext (.ref I)) _ >>= _) _ _ s
  by_cases hn : n = 0
  · subst hn
    refine wpAny_bind (wpAny_tryCatch (W.done s _ _ st fun g tk kp => ?_))
    show wpAny _ A.in1 (rule _ >>= _) _ _ _
    refine wpAny_bind (wpAny_rule (wpAny_pure ?_))
    exact fin0 rfl g tk fun b o h1 _ e => kp b o h1 e
  · refine wpAny_bind (wpAny_tryCatch (W.item 0 s _ _ (by omega) st fun v g tk pv st2 kp => ?_))
    have eS2 := kp S _ wS eS
    show wpAny _ A.in1 (updateSeq S (fun _ => #[v, v]) >>= _) _ _ _; refine wpAny_bind (wpAny_updateSeq eS2 rfl ?_)
    rw [nm]
    refine wpAny_pure ⟨plainId_quiet F.plain_max_loop _, go W cm fS (n - 1) 0 _ v _ (by omega) (W.frame _ _ _ st2 fun b hb2 o e => ?_) pv (Heap.get?_update_self _ eS2 rfl) fun v2 g2 tk2 p2 kp2 => ?_⟩
    · exact (Heap.get?_update_other _ _ (fun z : S = b => fS (z ▸ hb2))).trans e
    · exact fin v2 g2 tk2 (by omega) p2 fun b o h1 h2 e => kp2 b o h1 h2 ((Heap.get?_update_other _ _ h2.symm).trans (kp b o h1 e))
end
section
variable {prog : Program} {w : World} {A : Around} {E : Value → Shared → Prop} {s : Shared} {l : Addr} {xs : Array (Int × Tok)} {d : Value}
theorem of_ints {Q : Value → Shared → Prop} (hh : A.handled = none) (hl : s.heap.IsList l (intItems xs))
    (h : ∀ v g tk, 0 < xs.size → (intItems xs)[argBest (fun i j => decide (numAt xs i > numAt xs j)) (xs.size - 1)]? = some v → (∀ b o, s.heap.get? b = some o → g.get? b = some o) → Q v { s with heap := g, toks := tk })
    (h0 : xs.size = 0 → ∀ g tk, (∀ b o, s.heap.get? b = some o → g.get? b = some o) → Q d { s with heap := g, toks := tk }) :
    wpAny (model prog w) A (call (.builtin "max") [.ref l] [(Str.ofString "default", d)]) Q E s := by
  have sz : (intItems xs).size = xs.size := by simp [intItems]
  refine kmk_tree F.kind_max F.plain_max F.entry_max (args_d _ _) ?_
  show wpAny _ A.in1 (Builtin.Builtins.bindParams "max" ["key", "default"] 0 ⟨[], [(Str.ofString "default", d)]⟩ >>= _) _ _ s
  refine wpAny_bind (wpAny_of_eq (show Builtin.Builtins.bindParams "max" ["key", "default"] 0 ⟨[], [(Str.ofString "default", d)]⟩ = pure [none, some d] from by first | rfl | kernel_rfl) ?_)
  refine wpAny_bind (wpAny_pure (wpAny_bind (iter_intList hl fun s2 e2 st fb ne => ?_)))
  refine wpAny_bind (wpAny_newObj_type ?_)
  have fS : s2.heap.objs.size ∉ [s.heap.objs.size, l] := fun z => Nat.lt_irrefl _ (fb _ z)
  rw [nm]
  have W := Walks.list (prog := prog) (w := w) (A := A.in1) hh s.heap.objs.size l ne (intItems xs)
  have kept : ∀ g : Heap, (∀ b o, b ∉ [s.heap.objs.size] → b ≠ s2.heap.objs.size → (s2.heap.push (boxO #[] 0)).get? b = some o → g.get? b = some o) → ∀ b o, s.heap.get? b = some o → g.get? b = some o := by
    intro g kp b o e
    have lt := Heap.lt_size e
    have e3 : s2.heap.get? b = some o := by
      rw [e2]
      exact Heap.get?_push_of_some _ e
    refine kp b o (fun z => ?_) (Nat.ne_of_lt (Heap.lt_size e3)) (Heap.get?_push_of_some _ e3)
    rw [List.mem_singleton.mp z] at lt
    exact Nat.lt_irrefl _ lt
  subst e2
  refine wpAny_pure ⟨plainId_quiet F.plain_max_loop _, first W (CmpOf.ints_gt (numAt xs) (fun _ _ => intItems_at)) fS (W.frame _ _ _ st fun b _ o e => Heap.get?_push_of_some _ e) (Heap.get?_push_size _ rfl) (fun v g tk hn hP kp => ?_) (fun hn g tk kp => ?_)⟩
  · rw [sz] at hn hP
    exact h v g tk hn hP (kept g kp)
  · rw [sz] at hn
    exact h0 hn g tk (kept g kp)
end
section
variable {X : Cx}
def rMaxD (K : PySem.W.Frag) : List V → List V → Hp → VK → Prop := fun vs zs H Q => ∃ (a : Addr) (ns : List Int) (d : Int), vs = [V.ref a] ∧ zs = [V.int d] ∧ SqL K H a (ns.map V.int) ∧ (ns = [] → Q (.int d) H) ∧ ∀ m, m ∈ ns → (∀ y, y ∈ ns → y ≤ m) → Q (.int m) H
theorem cr_maxD (hc : X.calm = true) : CallRK X (.builtin "max") [Str.ofString "default"] (rMaxD X.K) := by
  intro pins s σ H vs zs us ws Q I r rz h
  obtain ⟨a, ns, d, rfl, rfl, hs, q0, q⟩ := h
  obtain ⟨its, rv, hl, _⟩ := I.list hs
  obtain ⟨w1, rfl, t1, rfl⟩ := vals1 rz
  rw [Vals.ref1 r]
  have hi := rv.ints
  obtain ⟨xs, e⟩ := hi.allInts.items
  have hn : numsOf (intItems xs).toList = ns := by rw [← e]; exact hi.numsOf
  rw [nums_intItems] at hn
  subst hn
  have hl2 := hl.isList
  rw [e] at hl2
  refine of_ints (I.ok.hd hc) hl2 (fun v g tk hp hv kp => ?_) (fun hz g tk kp => ?_)
  · obtain ⟨t, rfl⟩ := intItems_at hv
    obtain ⟨h1, h2⟩ := argBest_gt (numAt xs) (xs.size - 1)
    refine ⟨.int _, H, I.kept kp, ⟨_, rfl⟩, q _ ?_ fun y hy => ?_⟩
    · rw [numAt_eq]
      exact PySem.getD_mem (by rw [List.length_map, Array.length_toList]; omega)
    · obtain ⟨j, hj, rfl⟩ := mem_getD hy
      rw [List.length_map, Array.length_toList] at hj
      rw [← numAt_eq]
      exact h2 j (by omega)
  · refine ⟨.int d, H, I.kept kp, ⟨_, rfl⟩, q0 ?_⟩
    rw [List.map_eq_nil_iff]
    exact List.eq_nil_of_length_eq_zero (by rw [Array.length_toList]; exact hz)
end
end MxD

namespace K09
open PySem PySem.Spec PyProof.Rows L2
def topS (i : Nat) : Stmt := PySem.Challenge.pw_nestlaid_k09_longest_and_wished.main.body.getD i (.Pass ⟨0, 0, 0, 0⟩)
abbrev s_p_longest : Stmt := topS 4
abbrev s_p_wished : Stmt := topS 5
abbrev s_p_refuse_no_text : Stmt := topS 6
abbrev s_p_parts_of : Stmt := topS 7
abbrev s_cell_at : Stmt := topS 9
abbrev s_mixed : Stmt := topS 10
abbrev s_source : Stmt := topS 11
abbrev s_next : Stmt := topS 12
abbrev s_word : Stmt := topS 13
abbrev s_text : Stmt := topS 14
abbrev s_longest : Stmt := topS 15
abbrev s_wish : Stmt := topS 16
abbrev s_same : Stmt := topS 17
abbrev s_right : Stmt := topS 18
abbrev s_law : Stmt := topS 19
abbrev n_p_longest : List Str := ["text", "words", "word"]
theorem sc_p_longest : FnScope n_p_longest ["text"] (defScope s_p_longest) := ⟨rfl, rfl, rfl, by decide +kernel, rfl, by decide +kernel, by decide +kernel⟩
abbrev n_p_wished : List Str := ["text", "words"]
theorem sc_p_wished : FnScope n_p_wished ["text"] (defScope s_p_wished) := ⟨rfl, rfl, rfl, by decide +kernel, rfl, by decide +kernel, by decide +kernel⟩
abbrev n_p_refuse_no_text : List Str := ["thing"]
theorem sc_p_refuse_no_text : FnScope n_p_refuse_no_text ["thing"] (defScope s_p_refuse_no_text) := ⟨rfl, rfl, rfl, by decide +kernel, rfl, by decide +kernel, by decide +kernel⟩
abbrev n_p_parts_of : List Str := ["text", "word", "part"]
theorem sc_p_parts_of : FnScope n_p_parts_of ["text"] (defScope s_p_parts_of) := ⟨rfl, rfl, rfl, by decide +kernel, rfl, by decide +kernel, by decide +kernel⟩
abbrev n_cell_at : List Str := ["_law_script", "_law_k"]
theorem sc_cell_at : FnScope n_cell_at ["_law_script", "_law_k"] (defScope s_cell_at) := ⟨rfl, rfl, rfl, by decide +kernel, rfl, by decide +kernel, by decide +kernel⟩
abbrev n_mixed : List Str := ["_law_cell", "_law_k", "_law_low"]
theorem sc_mixed : FnScope n_mixed ["_law_cell", "_law_k"] (defScope s_mixed) := ⟨rfl, rfl, rfl, by decide +kernel, rfl, by decide +kernel, by decide +kernel⟩
abbrev n_source : List Str := ["_law_cell"]
theorem sc_source : FnScope n_source ["_law_cell"] (defScope s_source) := ⟨rfl, rfl, rfl, by decide +kernel, rfl, by decide +kernel, by decide +kernel⟩
abbrev n_next : List Str := ["_law_source_here", "_law_many", "_law_found"]
theorem sc_next : FnScope n_next ["_law_source_here", "_law_many"] (defScope s_next) := ⟨rfl, rfl, rfl, by decide +kernel, rfl, by decide +kernel, by decide +kernel⟩
abbrev n_word : List Str := ["_law_source_here", "_law_some", "_law_many", "_law_first", "_law_step", "_law_k"]
theorem sc_word : FnScope n_word ["_law_source_here"] (defScope s_word) := ⟨rfl, rfl, rfl, by decide +kernel, rfl, by decide +kernel, by decide +kernel⟩
abbrev n_text : List Str := ["_law_source_here", "_law_most", "_law_found", "_law_k", "_law_way"]
theorem sc_text : FnScope n_text ["_law_source_here", "_law_most"] (defScope s_text) := ⟨rfl, rfl, rfl, by decide +kernel, rfl, by decide +kernel, by decide +kernel⟩
abbrev n_longest : List Str := ["_law_text_here", "_law_run", "_law_most", "_law_sign"]
theorem sc_longest : FnScope n_longest ["_law_text_here"] (defScope s_longest) := ⟨rfl, rfl, rfl, by decide +kernel, rfl, by decide +kernel, by decide +kernel⟩
abbrev n_wish : List Str := ["_law_text_here", "_law_most", "_law_letters", "_law_words", "_law_ahead", "_law_sign"]
theorem sc_wish : FnScope n_wish ["_law_text_here"] (defScope s_wish) := ⟨rfl, rfl, rfl, by decide +kernel, rfl, by decide +kernel, by decide +kernel⟩
abbrev n_same : List Str := ["_law_found", "_law_due"]
theorem sc_same : FnScope n_same ["_law_found", "_law_due"] (defScope s_same) := ⟨rfl, rfl, rfl, by decide +kernel, rfl, by decide +kernel, by decide +kernel⟩
abbrev n_right : List Str := ["_law_text_here"]
theorem sc_right : FnScope n_right ["_law_text_here"] (defScope s_right) := ⟨rfl, rfl, rfl, by decide +kernel, rfl, by decide +kernel, by decide +kernel⟩
abbrev n_law : List Str := ["_law_script", "_law_cell", "_law_source_here", "_law_one", "_law_other", "_law_both", "_law_wide"]
theorem sc_law : FnScope n_law ["_law_script"] (defScope s_law) := ⟨rfl, rfl, rfl, by decide +kernel, rfl, by decide +kernel, by decide +kernel⟩
/-! ### what is known of a def of the top, and of a def that keeps its promise -/
structure Has (K : PySem.W.Frag) (mg : Str → Option Value) (x : Str) (st : Stmt) (ps : List Str) : Prop where
  ex : ∃ f fd, Fun K x x st f fd ∧ mg x = some (.ref f) ∧ Binds K fd ps []
structure Ok (P : Program) (w : World) (K : PySem.W.Frag) (mg : Str → Option Value) (base : Heap) (C : CXT) (x : Str) (st : Stmt) (k : Nat) (ps : List Str) (sp : Sp) : Prop where
  ex : ∃ f fd, Fun K x x st f fd ∧ FnOk P w K mg base C k f fd ps sp ∧ mg x = some (.ref f) ∧ Binds K fd ps []
section
variable {P : Program} {w : World} {K : PySem.W.Frag} {mg : Str → Option Value} {base : Heap} {x : Str} {st : Stmt} {ps N : List Str} {k : Nat} {sp : Sp}
theorem has_mk {f : Addr} {fd : FuncData} (F : Fun K x x st f fd) (g : mg x = some (.ref f))
    (h : ∀ (kV doc pm : Value) (an : Option Addr) (cdv ct : Value) (us : List Value), us.length = ps.length → bindArgs (PySem.W.fnOf x x (defArgs st) (defBody st) (defScope st) .none kV doc pm an cdv ct) ⟨us, []⟩ = pure (ps.zip us)) : Has K mg x st ps :=
  ⟨f, fd, F, g, F.binds h⟩
theorem Has.ok (D : Has K mg x st ps) (S : FnScope N ps (defScope st)) (len : ∀ vs H Q E, sp vs H Q E → vs.length = ps.length)
    (hbody : ∀ (f : Addr) (cdv : Value) (A : Around) (outer : List Env) (s : Shared) (H : Hp) (vs : List V) (Q : VK) (E : XK), Room k (A.deeper (envOfC x (defScope st) s.heap.objs.size f cdv)) → sp vs H Q E →
      ∃ t, PSs (cxOf CX0 P w K mg base N x (defScope st) f cdv A outer s H E).nox (defBody st) t ∧ t { nx := fun _ H' => Q .non H', rt := Q } (start N vs) H) : Ok P w K mg base CX0 x st (k + 1) ps sp := by
  obtain ⟨f, fd, F, g, b⟩ := D
  exact ⟨f, fd, F, F.ok S len (hbody f), g, b⟩
end
section
variable {X : Cx} {x : Str} {st : Stmt} {ps ks : List Str} {k : Nat} {sp : Sp} {e : Expr} {es : List Expr} {kws : List Keyword} {t tk : TA} {p pos : Pos} {g : List Value → List Value → List Value} {gV : List V → List V → List V}
theorem callO (O : Ok X.prog X.w X.K X.mg X.base CX0 x st k ps sp) (hr : Room k X.A) (hg : Gl X x) (ha : PA X (e :: es) t) (hdb : (x == ("__debug__" : Str)) = false := by decide) (he : starEach (e :: es) X.env = (false, eval e X.env) :: starEach es X.env := by rfl) (hpl : (backTo pos (starEach es X.env)).any (·.1) = false := by rfl) :
    PE X (.Call (.Name x p) (e :: es) [] pos) (tCall sp [] E0 t) := by
  obtain ⟨f, fd, F, G, m, b⟩ := O
  exact pe_call G hr hg m F.kp b .nil pass0 ha hdb he hpl
/-- how a call by keywords alone binds -/
def KwB (x : Str) (st : Stmt) (ps ks : List Str) (g : List Value → List Value → List Value) : Prop :=
  ∀ (kV doc pm : Value) (an : Option Addr) (cdv ct : Value) (ws : List Value), ws.length = ks.length → bindArgs (PySem.W.fnOf x x (defArgs st) (defBody st) (defScope st) .none kV doc pm an cdv ct) ⟨[], ks.zip ws⟩ = pure (ps.zip (g [] ws))
theorem kbn_of {K : PySem.W.Frag} {f : Addr} {fd : FuncData} (F : Fun K x x st f fd) (h : KwB x st ps ks g) (rel : ∀ {vs : List V} {us : List Value} {zs : List V} {ws : List Value}, Vals vs us → Vals zs ws → Vals (gV vs zs) (g us ws)) : KBn K fd ps 0 ks g gV := by
  obtain ⟨oc, od, kV, doc, pm, an, cdv, ct, osl, rfl, lk, hcd⟩ := F.ex
  refine ⟨fun s us ws _ h1 h2 => ?_, rel⟩
  obtain rfl : us = [] := List.eq_nil_of_length_eq_zero h1
  exact .of_eq (h kV doc pm an cdv ct ws h2)
/-- f(k = v, ..) -/
theorem callO_kw (O : Ok X.prog X.w X.K X.mg X.base CX0 x st k ps sp) (h : KwB x st ps ks g) (rel : ∀ {vs : List V} {us : List Value} {zs : List V} {ws : List Value}, Vals vs us → Vals zs ws → Vals (gV vs zs) (g us ws)) (hr : Room k X.A) (hg : Gl X x) (hkw : PK X kws tk)
    (hall : (backToKw pos (keywordEach kws X.env)).all (·.1.isSome) = true := by rfl) (hks : (backToKw pos (keywordEach kws X.env)).filterMap (·.1) = ks := by rfl) (hdb : (x == ("__debug__" : Str)) = false := by decide)
    (hpl : ((backTo pos (starEach [] X.env)).any (·.1) || (backToKw pos (keywordEach kws X.env)).any (·.1.isNone)) = false := by rfl) :
    PE X (.Call (.Name x p) [] kws pos) (tCallN 0 ks.length sp gV E0 tNil tk) := by
  obtain ⟨f, fd, F, G, m, b⟩ := O
  refine ⟨fun pins s σ H Q I h0 => ?_⟩
  refine wpAny_Call_Name_kw (ld_glob I hg m ?_ hdb)
  refine PySem.W.callWith_KW0 (h₀ := X.base) I.ok.mod.kin F.kp hall ?_ hpl
  refine thn (hkw.run pos pins s σ H _ I h0) fun ws s2 ⟨zs, H2, I2, rz, l1, l2, q2⟩ => ⟨I2.kIn, ?_⟩
  rw [hks]
  exact run_fnN (us := []) (vs := []) G hr (kbn_of F h rel) pass0 I2 .nil rz rfl l2 q2
end
/-! ### heaps -/
/-- all but p is as it was -/
def Off (p : Addr) (H H' : Hp) : Prop := ∀ b o, H b = some o → b ≠ p → H' b = some o
theorem Off.refl {p : Addr} {H : Hp} : Off p H H := fun _ _ h _ => h
theorem Off.trans {p : Addr} {H H1 H2 : Hp} (a : Off p H H1) (b : Off p H1 H2) : Off p H H2 := fun c o h n => b c o (a c o h n) n
theorem Off.of {p : Addr} {H H' : Hp} (s : Same H H') : Off p H H' := fun b o h _ => s b o h
theorem off_upd {p : Addr} {H : Hp} {o : HO} : Off p H (upd H p o) := fun b o' h n => by rw [upd_ne n]; exact h
theorem same_upd {H : Hp} {p : Addr} {o : HO} (h : H p = none) : Same H (upd H p o) := fun b x e => by
  rw [upd_ne (ne_of_none e h)]
  exact e
theorem off_new {p q : Addr} {H : Hp} {o : HO} (h : H q = none) : Off p H (upd H q o) := .of (same_upd h)
theorem Off.seq {K : PySem.W.Frag} {p : Addr} {H H' : Hp} {a : Addr} {xs : List V} (e : Off p H H') (n : a ≠ p) (h : SqL K H a xs) : SqL K H' a xs := by
  rcases h with (h | ⟨o, h⟩) | h
  · exact .inl (.inl (e _ _ h n))
  · exact .inl (.inr ⟨o, e _ _ h n⟩)
  · exact .inr h
theorem Off.ne {p a : Addr} {H H' : Hp} {o o' : HO} (h : H a = some o) (n : H p = none) : a ≠ p := ne_of_none h n
theorem atI_mem {α : Type} {xs : List α} {i : Int} (h0 : 0 ≤ i) (h1 : i < (xs.length : Int)) : ∃ v, v ∈ xs ∧ atI xs i = some v := by
  have h2 : i.toNat < xs.length := by omega
  refine ⟨xs[i.toNat], List.getElem_mem h2, ?_⟩
  have h3 := atI_nat (xs := xs) (j := i.toNat) (v := xs[i.toNat]) (List.getElem?_eq_getElem h2)
  rw [show ((i.toNat : Nat) : Int) = i by omega] at h3
  exact h3
theorem atI_at {α : Type} {xs : List α} {i : Int} (h0 : 0 ≤ i) (h1 : i < (xs.length : Int)) : ∃ (j : Nat) (v : α), (j : Int) = i ∧ xs[j]? = some v ∧ atI xs i = some v := by
  have h2 : i.toNat < xs.length := by omega
  have h3 := atI_nat (xs := xs) (j := i.toNat) (v := xs[i.toNat]) (List.getElem?_eq_getElem h2)
  rw [show ((i.toNat : Nat) : Int) = i by omega] at h3
  exact ⟨i.toNat, _, by omega, List.getElem?_eq_getElem h2, h3⟩
theorem int_at {ns : List Int} {i : Nat} {y : V} (h : (ns.map V.int)[i]? = some y) : ∃ z, y = V.int z ∧ ns[i]? = some z := by
  rw [List.getElem?_map] at h
  cases e : ns[i]? with
  | none =>
    rw [e] at h
    cases h
  | some z =>
    rw [e] at h
    exact ⟨z, (Option.some.inj h).symm, rfl⟩
theorem cut_ints (ns : List Int) (lo hi : Option Int) : ∃ ms : List Int, ms.length ≤ ns.length ∧ cutV (ns.map V.int) lo hi = ms.map V.int := by
  unfold cutV
  rw [← List.map_drop, ← List.map_take]
  exact ⟨_, by rw [List.length_take, List.length_drop]; omega, rfl⟩
theorem yes_if {σ : L2.St} {H : Hp} {A B : Hp → Prop} (h : A H) : tYes σ H (fun b H3 => if b = true then A H3 else B H3) := by
  show if true = true then A H else B H
  exact iteT h

structure Txt (K : PySem.W.Frag) (mg : Str → Option Value) : Prop where
  h_p_longest : Has K mg "longest" s_p_longest ["text"]
  h_p_wished : Has K mg "wished" s_p_wished ["text"]
  h_p_refuse_no_text : Has K mg "refuse_no_text" s_p_refuse_no_text ["thing"]
  h_p_parts_of : Has K mg "parts_of" s_p_parts_of ["text"]
  h_cell_at : Has K mg "_law_cell_at" s_cell_at ["_law_script", "_law_k"]
  h_mixed : Has K mg "_law_mixed" s_mixed ["_law_cell", "_law_k"]
  h_source : Has K mg "_law_source" s_source ["_law_cell"]
  h_next : Has K mg "_law_next" s_next ["_law_source_here", "_law_many"]
  h_word : Has K mg "_law_word" s_word ["_law_source_here"]
  h_text : Has K mg "_law_text" s_text ["_law_source_here", "_law_most"]
  h_longest : Has K mg "_law_longest" s_longest ["_law_text_here"]
  h_wish : Has K mg "_law_wish" s_wish ["_law_text_here"]
  h_same : Has K mg "_law_same" s_same ["_law_found", "_law_due"]
  h_right : Has K mg "_law_right" s_right ["_law_text_here"]
  m_max : mg "max" = none
  m_len : mg "len" = none
  m_isinstance : mg "isinstance" = none
  m_str : mg "str" = none
  m_range : mg "range" = none
  m_int : mg "int" = none
  m_bool : mg "bool" = none
/-! ### the source of draws: a list of three numbers -/
def Src (H : Hp) (p : Addr) : Prop := ∃ a b c : Int, H p = some (.lst [.int a, .int b, .int c])
theorem Src.ne_new {H : Hp} {p q : Addr} (h : Src H p) (n : H q = none) : q ≠ p := by
  obtain ⟨a, b, c, e⟩ := h
  exact (ne_of_none e n).symm
theorem Src.keep {H : Hp} {p q : Addr} {o : HO} (h : Src H p) (n : H q = none) : Src (upd H q o) p := by
  obtain ⟨a, b, c, e⟩ := h
  exact ⟨a, b, c, by rw [upd_ne (ne_of_none e n)]; exact e⟩
theorem Src.same {H H' : Hp} {p : Addr} (h : Src H p) (s : Same H H') : Src H' p := by
  obtain ⟨a, b, c, e⟩ := h
  exact ⟨a, b, c, s _ _ e⟩
def spCellAt (K : PySem.W.Frag) : Sp := fun vs H Q _ => ∃ (l : Addr) (ns : List Int) (j : Nat), vs = [.ref l, .int (j : Int)] ∧ SqL K H l (ns.map V.int) ∧ ∀ z : Int, Q (.int z) H
def spMixed : Sp := fun vs H Q _ => ∃ c k : Int, vs = [.int c, .int k] ∧ ∀ r : Int, Q (.int r) H
def spSource : Sp := fun vs H Q _ => ∃ c : Int, vs = [.int c] ∧ ∀ p H', H p = none → Src H' p → Same H H' → Q (.ref p) H'
def spNext : Sp := fun vs H Q _ => ∃ (p : Addr) (m : Int), vs = [.ref p, .int m] ∧ 0 < m ∧ m < 2 ^ 100 ∧ Src H p ∧ ∀ (r : Int) H', 0 ≤ r → r < m → Src H' p → Off p H H' → Q (.int r) H'
section
variable {P : Program} {w : World} {K : PySem.W.Frag} {mg : Str → Option Value} {base : Heap}
theorem ok_cell_at (T : Txt K mg) : Ok P w K mg base CX0 "_law_cell_at" s_cell_at 1 ["_law_script", "_law_k"] (spCellAt K) := by
  refine T.h_cell_at.ok sc_cell_at (fun vs H Q E h => ?_) (fun f cdv A outer s H vs Q E hr h => ?_)
  · obtain ⟨l, ns, j, rfl, _⟩ := h; rfl
  obtain ⟨l, ns, j, rfl, hs, q⟩ := h
  refine ⟨_, (pss_cons (ps_if (pt_cmpR op_lt (pv 1) (pe_callB call_len (by rfl) T.m_len (by decide +kernel) (pa_cons (pv 0) pa_nil)) (nomark _))
      (pss_one (ps_ret (pe_ix ix_list (pv 0) (pv 1) (fun _ _ => rfl))))
      pss_nil)
      (pss_one (ps_ret pe_int))), ?_⟩
  refine ⟨_, rfl, _, rfl, _, _, rfl, .inl ⟨_, hs, rfl⟩, _, _, rfl, rfl, _, rfl, ite2 (fun e => ?_) (fun e => ?_)⟩
  · have e1 := of_decide_eq_true e
    obtain ⟨v, hv, ha⟩ := atI_mem (xs := ns.map V.int) (i := (j : Int)) (by omega) e1
    obtain ⟨z, _, rfl⟩ := List.mem_map.mp hv
    exact ⟨_, rfl, _, rfl, _, _, _, _, rfl, rfl, hs, ha, q z⟩
  · exact q 0
theorem ok_mixed (T : Txt K mg) : Ok P w K mg base CX0 "_law_mixed" s_mixed 1 ["_law_cell", "_law_k"] spMixed := by
  refine T.h_mixed.ok sc_mixed (fun vs H Q E h => ?_) (fun f cdv A outer s H vs Q E hr h => ?_)
  · obtain ⟨l, j, rfl, _⟩ := h; rfl
  obtain ⟨c, k, rfl, q⟩ := h
  refine ⟨_, (pss_cons (ps_set (i := 2) sc_mixed.nd rfl (by first | exact Or.inl rfl | exact Or.inr rfl) (pe_op op_add (pe_op op_mod (pv 0) pe_int) (pe_op op_mul (pe_op op_fdivW (pv 0) pe_int) pe_int)))
      (pss_cons (ps_set (i := 2) sc_mixed.nd rfl (by first | exact Or.inl rfl | exact Or.inr rfl) (pe_op op_mod (pe_op op_mul (pe_op op_add (pe_op op_add (pv 2) (pe_op op_mul pe_int (pv 1))) pe_int) pe_int) pe_int))
      (pss_cons (ps_set (i := 2) sc_mixed.nd rfl (by first | exact Or.inl rfl | exact Or.inr rfl) (pe_op op_mod (pe_op op_mul (pv 2) (pe_op op_add (pe_op op_add (pe_op op_fdiv (pv 2) pe_int) pe_int) (pv 1))) pe_int))
      (pss_one (ps_ret (pe_op op_mod (pe_op op_mul (pv 2) (pe_op op_add (pe_op op_fdiv (pv 2) pe_int) pe_int)) pe_int)))))), ?_⟩
  refine ⟨_, rfl, _, _, rfl, rfl, (by show (0 : Int) < 2147483563; decide), _, rfl, _, _, rfl, rfl, wide_div (b := 40) (by decide) (by decide) (by decide) (by decide), _, _, rfl, rfl, .inr ⟨by decide, by decide⟩, _, _, rfl, rfl, ?_⟩
  refine ⟨_, rfl, _, rfl, _, _, rfl, rfl, .inl ⟨by decide, by decide⟩, _, _, rfl, rfl, _, _, rfl, rfl, _, _, rfl, rfl, .inr ⟨by decide, by decide⟩, _, _, rfl, rfl, (by show (0 : Int) < 2147483563; decide), ?_⟩
  have m1 : ∀ a : Int, (0 : Int) ≤ a % 2147483563 ∧ a % 2147483563 < 2147483563 := fun a => ⟨Int.emod_nonneg a (by decide), Int.emod_lt_of_pos a (by decide)⟩
  have m2 : ∀ a : Int, (0 : Int) ≤ a % 2147483549 ∧ a % 2147483549 < 2147483549 := fun a => ⟨Int.emod_nonneg a (by decide), Int.emod_lt_of_pos a (by decide)⟩
  generalize hx : ((c % 2147483563 + c / 2147483563 * 40009 + 52711 * k + 1) * 39373) % 2147483563 = x
  have b1 := m1 ((c % 2147483563 + c / 2147483563 * 40009 + 52711 * k + 1) * 39373)
  rw [hx] at b1
  refine ⟨_, rfl, _, rfl, _, _, rfl, rfl, ⟨by decide, by decide⟩, _, _, rfl, rfl, _, rfl, _, _, rfl, rfl, _, _, rfl, rfl, .inl ⟨by omega, by omega⟩, _, _, rfl, rfl, (by show (0 : Int) < 2147483549; decide), ?_⟩
  generalize hy : (x * (x / 1019 + 20011 + k)) % 2147483549 = y
  have b2 := m2 (x * (x / 1019 + 20011 + k))
  rw [hy] at b2
  refine ⟨_, rfl, _, rfl, _, _, rfl, rfl, ⟨by decide, by decide⟩, _, _, rfl, rfl, _, _, rfl, rfl, .inl ⟨by omega, by omega⟩, _, _, rfl, rfl, (by show (0 : Int) < 2147483497; decide), ?_⟩
  exact q _
theorem ok_source (T : Txt K mg) : Ok P w K mg base CX0 "_law_source" s_source 1 ["_law_cell"] spSource := by
  refine T.h_source.ok sc_source (fun vs H Q E h => ?_) (fun f cdv A outer s H vs Q E hr h => ?_)
  · obtain ⟨c, rfl, _⟩ := h; rfl
  obtain ⟨c, rfl, q⟩ := h
  refine ⟨_, (pss_one (ps_ret (pe_lst (pa_cons (pv 0) (pa_cons (pv 0) (pa_cons pe_int pa_nil)))))), ?_⟩
  refine ⟨_, rfl, _, rfl, (by show 3 ≤ sizeLine; decide), fun p np => ?_⟩
  exact q p _ np ⟨c, c, 0, upd_same⟩ (same_upd np)
theorem ok_next (T : Txt K mg) : Ok P w K mg base CX0 "_law_next" s_next 2 ["_law_source_here", "_law_many"] spNext := by
  have O_mixed := ok_mixed (P := P) (w := w) (base := base) T
  refine T.h_next.ok sc_next (fun vs H Q E h => ?_) (fun f cdv A outer s H vs Q E hr h => ?_)
  · obtain ⟨p, m, rfl, _⟩ := h; rfl
  obtain ⟨p, m, rfl, m0, m1, ⟨a, b, c, hp⟩, q⟩ := h
  have sq : SqL K H p [.int a, .int b, .int c] := .of hp
  have a0 : atI [V.int a, V.int b, V.int c] 0 = some (.int a) := atI_nat (j := 0) rfl
  have a1 : atI [V.int a, V.int b, V.int c] 1 = some (.int b) := atI_nat (j := 1) rfl
  have a2 : atI [V.int a, V.int b, V.int c] 2 = some (.int c) := atI_nat (j := 2) rfl
  have hm : CDivW a m := wide_div (b := 100) m0 (by omega) (by decide) (by decide)
  refine ⟨_, (pss_cons (ps_if (pt_cmpR op_ge (pe_ix ix_list (pv 0) pe_int (fun _ _ => rfl)) (pe_op op_pow pe_int pe_int) (nomark _))
      (pss_cons (ps_set (i := 2) sc_next.nd rfl (by first | exact Or.inl rfl | exact Or.inr rfl) (pe_op op_mod (pe_ix ix_list (pv 0) pe_int (fun _ _ => rfl)) (pv 1)))
      (pss_cons (ps_asg (pe_op op_fdivW (pe_ix ix_list (pv 0) pe_int (fun _ _ => rfl)) (pv 1)) (pg_sub (pv 0) pe_int set_list))
      (pss_one (ps_ret (pv 2)))))
      pss_nil)
      (pss_cons (ps_asg (pe_op op_add (pe_ix ix_list (pv 0) pe_int (fun _ _ => rfl)) pe_int) (pg_sub (pv 0) pe_int set_list))
      (pss_one (ps_ret (pe_op op_mod (callO O_mixed (hr.mono (by decide)) (by rfl) (pa_cons (pe_ix ix_list (pv 0) pe_int (fun _ _ => rfl)) (pa_cons (pe_ix ix_list (pv 0) pe_int (fun _ _ => rfl)) pa_nil))) (pv 1)))))), ?_⟩
  refine ⟨_, rfl, _, _, _, _, rfl, rfl, sq, a0, _, _, rfl, rfl, ⟨by decide, by decide, by decide⟩, _, _, rfl, rfl, _, rfl, ite2 (fun _ => ?_) (fun _ => ?_)⟩
  · refine ⟨_, rfl, _, _, _, _, rfl, rfl, sq, a0, _, rfl, _, _, rfl, rfl, m0, _, rfl, _, _, _, _, rfl, rfl, sq, a0, _, rfl, _, _, rfl, rfl, hm, _, rfl, _, _, _, 0, rfl, rfl, hp, rfl, _, rfl, ?_⟩
    exact q _ _ (Int.emod_nonneg _ (by omega)) (Int.emod_lt_of_pos _ m0) ⟨_, _, _, upd_same⟩ off_upd
  · refine ⟨_, rfl, _, _, _, _, rfl, rfl, sq, a2, _, _, rfl, rfl, _, rfl, _, _, _, 2, rfl, rfl, hp, rfl, ?_⟩
    have hp2 : (upd H p (.lst [.int a, .int b, .int (c + 1)])) p = some (.lst [.int a, .int b, .int (c + 1)]) := upd_same
    have sq2 : SqL K (upd H p (.lst [.int a, .int b, .int (c + 1)])) p [.int a, .int b, .int (c + 1)] := .of hp2
    refine ⟨_, rfl, _, _, _, _, rfl, rfl, sq2, atI_nat (j := 1) rfl, _, rfl, _, _, _, _, rfl, rfl, sq2, atI_nat (j := 2) rfl, _, _, rfl, fun r => ?_⟩
    refine ⟨_, rfl, _, _, rfl, rfl, m0, ?_⟩
    exact q _ _ (Int.emod_nonneg _ (by omega)) (Int.emod_lt_of_pos _ m0) ⟨_, _, _, upd_same⟩ off_upd
end

/-! ### texts by their codes: cut at one sign -/
def consHead (c : Nat) : List (List Nat) → List (List Nat)
  | [] => [[c]]
  | h :: t => (c :: h) :: t
def cutC (s : Nat) : List Nat → List (List Nat)
  | [] => [[]]
  | c :: r => if c = s then [] :: cutC s r else consHead c (cutC s r)
theorem cutC_ne (s : Nat) : ∀ l, cutC s l ≠ []
  | [] => by simp [cutC]
  | c :: r => by
    unfold cutC
    split
    · simp
    · cases cutC s r <;> simp [consHead]
def appHead (a : List Nat) : List (List Nat) → List (List Nat)
  | [] => [a]
  | h :: t => (a ++ h) :: t
theorem appHead_cons (a : List Nat) (c : Nat) (l : List (List Nat)) : appHead (a ++ [c]) l = appHead a (consHead c l) := by
  cases l with
  | nil => rfl
  | cons h t => simp [appHead, consHead]
theorem appHead_nil {l : List (List Nat)} (h : l ≠ []) : appHead [] l = l := by
  cases l with
  | nil => exact absurd rfl h
  | cons h t => rfl
theorem spl_cut (s : Nat) : ∀ (l acc : List Nat), TL.spl [s] 0 acc l = appHead acc (cutC s l)
  | [], acc => by simp [TL.spl_nil, cutC, appHead]
  | c :: r, acc => by
    by_cases h : c = s
    · have hp : TL.pre [s] (c :: r) = true := by simp [TL.pre, h]
      rw [TL.spl_hit hp]
      show acc :: TL.spl [s] 0 [] r = _
      rw [spl_cut s r [], appHead_nil (cutC_ne s r)]
      simp [cutC, h, appHead]
    · have hp : TL.pre [s] (c :: r) = false := by simp [TL.pre, h]
      rw [TL.spl_miss hp, spl_cut s r (acc ++ [c]), appHead_cons]
      simp [cutC, h]
theorem split_cut {y : Str} {s : Nat} (ey : TL.tl y = [s]) (hk : s < 256) (x : Str) : (Txt.split x y).map TL.tl = cutC s (TL.tl x) := by
  have hk2 : y.cps.all (· < 256) = true := by
    rw [← Array.all_toList]
    show (TL.tl y).all _ = true
    rw [ey]
    simp [hk]
  rw [TL.split_spl x y (by rw [ey]; simp) (TL.kind_ok hk2), ey, spl_cut, appHead_nil (cutC_ne s _)]
theorem cutC_len (s : Nat) : ∀ (l : List Nat), ∀ p ∈ cutC s l, p.length ≤ l.length
  | [], p, h => by simp [cutC] at h; simp [h]
  | c :: r, p, h => by
    unfold cutC at h
    split at h
    · rcases List.mem_cons.mp h with e | h
      · simp [e]
      · have := cutC_len s r p h; simp; omega
    · cases e : cutC s r with
      | nil => exact absurd e (cutC_ne s r)
      | cons a t =>
        rw [e] at h
        rcases List.mem_cons.mp h with h | h
        · have := cutC_len s r a (by rw [e]; exact List.mem_cons_self); rw [h]; simp; omega
        · have := cutC_len s r p (by rw [e]; exact List.mem_cons_of_mem _ h); simp; omega
theorem cutC_count (s : Nat) : ∀ (l : List Nat), (cutC s l).length ≤ l.length + 1
  | [] => by simp [cutC]
  | c :: r => by
    have ih := cutC_count s r
    unfold cutC
    split
    · simp; omega
    · cases e : cutC s r with
      | nil => exact absurd e (cutC_ne s r)
      | cons a t => rw [e] at ih; simp [consHead] at ih ⊢; omega
theorem cutC_free (s : Nat) : ∀ (l : List Nat), ∀ p ∈ cutC s l, s ∉ p
  | [], p, h => by simp [cutC] at h; simp [h]
  | c :: r, p, h => by
    unfold cutC at h
    split at h
    · rcases List.mem_cons.mp h with e | h
      · simp [e]
      · exact cutC_free s r p h
    · rename_i hc
      cases e : cutC s r with
      | nil => exact absurd e (cutC_ne s r)
      | cons a t =>
        rw [e] at h
        rcases List.mem_cons.mp h with h | h
        · have := cutC_free s r a (by rw [e]; exact List.mem_cons_self)
          rw [h]
          simp only [List.mem_cons, not_or]
          exact ⟨fun q => hc q.symm, this⟩
        · exact cutC_free s r p (by rw [e]; exact List.mem_cons_of_mem _ h)
/-- the words of a part, the parts of a text -/
def wordsC (p : List Nat) : List (List Nat) := (cutC 32 p).filter fun w => !w.isEmpty
def partsC (t : List Nat) : List (List (List Nat)) := (cutC 10 t).map wordsC
def keepW (w : Str) : Bool := !decide (V.str w = V.str (Str.ofString ""))
def wordsS (p : Str) : List Str := (Txt.split p (Str.ofString " ")).filter keepW
def partsS (x : Str) : List (List Str) := (Txt.split x (Str.ofString "\n")).map wordsS
theorem tl_blank : TL.tl (Str.ofString " ") = [32] := by decide +kernel
theorem tl_feed : TL.tl (Str.ofString "\n") = [10] := by decide +kernel
theorem tl_none : TL.tl (Str.ofString "") = [] := by decide +kernel
theorem keepW_tl (w : Str) : keepW w = !(TL.tl w).isEmpty := by
  unfold keepW
  by_cases h : w = Str.ofString ""
  · subst h; rw [tl_none]; simp
  · have h2 : TL.tl w ≠ [] := fun e => h (TL.ext_tl (e.trans tl_none.symm))
    have h3 : ¬ V.str w = V.str (Str.ofString "") := fun e => h (V.str.inj e)
    rw [decide_eq_false h3]
    cases e : TL.tl w with
    | nil => exact absurd e h2
    | cons a b => rfl
theorem map_filter_keep (l : List Str) : (l.filter keepW).map TL.tl = (l.map TL.tl).filter fun w => !w.isEmpty := by
  rw [List.filter_map]
  congr 1
  apply List.filter_congr
  intro a _
  exact keepW_tl a
theorem wordsS_tl (p : Str) : (wordsS p).map TL.tl = wordsC (TL.tl p) := by
  unfold wordsS wordsC
  rw [map_filter_keep, split_cut tl_blank (by decide)]
theorem partsS_tl (x : Str) : (partsS x).map (·.map TL.tl) = partsC (TL.tl x) := by
  unfold partsS partsC
  rw [List.map_map, ← split_cut tl_feed (by decide) x, List.map_map]
  apply List.map_congr_left
  intro p _
  exact wordsS_tl p
theorem len_tl' (x : Str) : x.length = (TL.tl x).length := TL.len_tl x
theorem split_small {x y : Str} {s : Nat} (ey : TL.tl y = [s]) (hk : s < 256) : (Txt.split x y).length ≤ x.length + 1 ∧ ∀ p ∈ Txt.split x y, p.length ≤ x.length := by
  have e := split_cut ey hk x
  constructor
  · have h := congrArg List.length e
    rw [List.length_map] at h
    rw [h, TL.len_tl x]
    exact cutC_count s _
  · intro p hp
    rw [TL.len_tl p, TL.len_tl x]
    exact cutC_len s _ _ (by rw [← e]; exact List.mem_map.mpr ⟨p, hp, rfl⟩)
/-! ### lines of a part -/
def gapS (a b : Str) : Str := a ++ Str.ofString " " ++ b
def linesGo (wide : Int) : Str → List Str → List Str
  | cur, [] => [cur]
  | cur, w :: r => if ((gapS cur w).length : Int) ≤ wide then linesGo wide (gapS cur w) r else cur :: linesGo wide w r
def linesS (wide : Int) : List Str → List Str
  | [] => [Str.ofString ""]
  | w :: r => linesGo wide w r
def wrappedS (x : Str) (wide : Int) : List Str := ((partsS x).map (linesS wide)).flatten
theorem len_append (a b : Str) : (a ++ b).length = a.length + b.length := by
  rw [TL.len_tl, TL.tl_append, List.length_append, ← TL.len_tl, ← TL.len_tl]
theorem len_gap (a b : Str) : (gapS a b).length = a.length + 1 + b.length := by
  unfold gapS
  rw [len_append, len_append]
  congr 1

/-! ### the program's words and lines -/
theorem big {n : Nat} (h : n ≤ 16000000) : n < sizeLine := Nat.lt_of_le_of_lt h (by decide)
theorem bigl {n : Nat} (h : n ≤ 16000000) : n ≤ sizeLine := Nat.le_of_lt (big h)
def strsAt (H : Hp) (a : Addr) (ws : List Str) : Prop := H a = some (.lst (ws.map V.str))
def spNoText : Sp := fun vs H Q _ => ∃ x : Str, vs = [.str x] ∧ Q .non H
def spWholeI : Sp := fun vs H Q _ => ∃ i : Int, vs = [.int i] ∧ Q (.bl true) H
def spCountI : Sp := fun vs H Q _ => ∃ i : Int, vs = [.int i] ∧ 0 ≤ i ∧ Q (.bl true) H
def spParts : Sp := fun vs H Q _ => ∃ x : Str, vs = [.str x] ∧ x.length ≤ 2000 ∧ ∀ (p : Addr) (as : List Addr) (H' : Hp), Same H H' → H p = none → H' p = some (.lst (as.map V.ref)) →
  Paired (fun a ws => H a = none ∧ a ≠ p ∧ strsAt H' a ws) as (partsS x) → Q (.ref p) H'
def spLines (K : PySem.W.Frag) : Sp := fun vs H Q _ => ∃ (a : Addr) (ws : List Str) (wide : Int), vs = [.ref a, .int wide] ∧ SqL K H a (ws.map V.str) ∧ ws.length ≤ 2001 ∧ (∀ w ∈ ws, w.length ≤ 2000) ∧
  ∀ (p : Addr) (H' : Hp), Same H H' → H p = none → strsAt H' p (linesS wide ws) → Q (.ref p) H'
def spWrapped : Sp := fun vs H Q _ => ∃ (x : Str) (wide : Int), vs = [.str x, .int wide] ∧ x.length ≤ 2000 ∧ 0 ≤ wide ∧
  ∀ (p : Addr) (H' : Hp), Same H H' → H p = none → strsAt H' p (wrappedS x wide) → Q (.ref p) H'
theorem wordsS_small {p : Str} (h : p.length ≤ 2000) : (wordsS p).length ≤ 2001 ∧ ∀ w ∈ wordsS p, w.length ≤ 2000 := by
  obtain ⟨h1, h2⟩ := split_small (x := p) tl_blank (by decide)
  constructor
  · exact Nat.le_trans (List.length_filter_le _ _) (by omega)
  · intro w hw
    exact Nat.le_trans (h2 w (List.mem_filter.mp hw).1) h
theorem partsS_small {x : Str} (h : x.length ≤ 2000) : (partsS x).length ≤ 2001 ∧ ∀ ws ∈ partsS x, ws.length ≤ 2001 ∧ ∀ w ∈ ws, w.length ≤ 2000 := by
  obtain ⟨h1, h2⟩ := split_small (x := x) tl_feed (by decide)
  constructor
  · unfold partsS
    rw [List.length_map]
    omega
  · intro ws hws
    obtain ⟨p, hp, rfl⟩ := List.mem_map.mp hws
    exact wordsS_small (Nat.le_trans (h2 p hp) h)
theorem linesGo_len (wide : Int) : ∀ (ws : List Str) (cur : Str), (linesGo wide cur ws).length ≤ ws.length + 1
  | [], cur => by simp [linesGo]
  | w :: r, cur => by
    unfold linesGo
    split
    · have := linesGo_len wide r (gapS cur w); simp; omega
    · have := linesGo_len wide r w; simp; omega
theorem linesS_len (wide : Int) (ws : List Str) : (linesS wide ws).length ≤ ws.length + 1 := by
  cases ws with
  | nil => simp [linesS]
  | cons w r => have := linesGo_len wide r w; simp [linesS]; omega
theorem flat_take_succ {α β : Type} (f : α → List β) (l : List α) (i : Nat) (a : α) (h : l[i]? = some a) : ((l.take (i + 1)).map f).flatten = ((l.take i).map f).flatten ++ f a := by
  rw [List.take_add_one, h, List.map_append, List.flatten_append]
  simp
theorem flat_len {α β : Type} (f : α → List β) (b : Nat) : ∀ (l : List α), (∀ a ∈ l, (f a).length ≤ b) → ((l.map f).flatten).length ≤ l.length * b
  | [], _ => by simp
  | a :: r, h => by
    have h1 := h a List.mem_cons_self
    have h2 := flat_len f b r fun x hx => h x (List.mem_cons_of_mem _ hx)
    simp only [List.map_cons, List.flatten_cons, List.length_append, List.length_cons, Nat.add_mul, Nat.one_mul]
    omega
theorem wrapped_len {x : Str} {wide : Int} (hx : x.length ≤ 2000) : (wrappedS x wide).length ≤ 2001 * 2002 := by
  obtain ⟨c1, c2⟩ := partsS_small hx
  refine Nat.le_trans (flat_len (linesS wide) 2002 _ fun ws' h' => ?_) (Nat.mul_le_mul_right _ c1)
  have z1 := (c2 ws' h').1
  have z2 := linesS_len wide ws'
  omega
theorem str_at {ws : List Str} {i : Nat} {y : V} (h : (ws.map V.str)[i]? = some y) : ∃ z, y = V.str z ∧ ws[i]? = some z := by
  rw [List.getElem?_map] at h
  cases e : ws[i]? with
  | none => rw [e] at h; cases h
  | some z => rw [e] at h; exact ⟨z, (Option.some.inj h).symm, rfl⟩
theorem ref_at {as : List Addr} {i : Nat} {y : V} (h : (as.map V.ref)[i]? = some y) : ∃ z, y = V.ref z ∧ as[i]? = some z := by
  rw [List.getElem?_map] at h
  cases e : as[i]? with
  | none => rw [e] at h; cases h
  | some z => rw [e] at h; exact ⟨z, (Option.some.inj h).symm, rfl⟩
theorem filter_take_succ {α : Type} (f : α → Bool) (l : List α) (i : Nat) (a : α) (h : l[i]? = some a) : (l.take (i + 1)).filter f = (l.take i).filter f ++ (if f a = true then [a] else []) := by
  rw [List.take_add_one, h, List.filter_append]
  congr 1
  simp [List.filter_cons]
theorem paired_same {G G' : Addr → List Str → Prop} (h : ∀ a ws, G a ws → G' a ws) : ∀ {l : List Addr} {m : List (List Str)}, Paired G l m → Paired G' l m
  | _, _, .nil => .nil
  | _, _, .cons a r => .cons (h _ _ a) (paired_same h r)
section
variable {P : Program} {w : World} {K : PySem.W.Frag} {mg : Str → Option Value} {base : Heap}
theorem ok_no_text (T : Txt K mg) : Ok P w K mg base CX0 "refuse_no_text" s_p_refuse_no_text 1 ["thing"] spNoText := by
  refine T.h_p_refuse_no_text.ok sc_p_refuse_no_text (fun vs H Q E h => ?_) (fun f cdv A outer s H vs Q E hr h => ?_)
  · obtain ⟨x, rfl, _⟩ := h; rfl
  obtain ⟨x, rfl, q⟩ := h
  refine ⟨_, (pss_one (ps_if (pt_not (pt_val (pe_callB call_isi (by rfl) T.m_isinstance (by decide +kernel) (pa_cons (pv 0) (pa_cons (pe_bltn (v := .ty "str") (by rfl) T.m_str (by decide +kernel) rfl) pa_nil)))))
      (pss_one ps_never)
      pss_nil)), ?_⟩
  exact ⟨_, rfl, _, _, _, _, true, rfl, .ty _, .base (.str x), kit_ty (by decide +kernel), true, rfl, iteF q⟩
theorem ok_parts (T : Txt K mg) : Ok P w K mg base CX0 "parts_of" s_p_parts_of 1 ["text"] spParts := by
  refine T.h_p_parts_of.ok sc_p_parts_of (fun vs H Q E h => ?_) (fun f cdv A outer s H vs Q E hr h => ?_)
  · obtain ⟨x, rfl, _⟩ := h; rfl
  obtain ⟨x, rfl, hx, q⟩ := h
  obtain ⟨c1, c2⟩ := split_small (x := x) tl_feed (by decide)
  refine ⟨_, (pss_one (ps_ret (pe_lc (own := [("part", 2)]) (te := (tLc (iList K (tM1 _ (tVar 2) _)) _ (tTest (tOp _ (tVar 1) _)) (tVar 1) [1])) (by rfl) sc_p_parts_of.nd (pi_list (pe_split (pv 0) pe_str)) (blkOk_by (own := [("part", 2)]) (N := n_p_parts_of) (sc := defScope s_p_parts_of) (by decide +kernel)) (fun _ _ _ _ _ => (pg_name (i := 2) sc_p_parts_of.nd rfl (by first | exact Or.inl rfl | exact Or.inr rfl))) (fun _ _ _ _ _ => pts_nil) (fun _ _ _ _ _ => (pe_lc (own := [("word", 1)]) (by rfl) sc_p_parts_of.nd (pi_list (pe_split (pv 2) pe_str)) (blkOk_by (own := [("word", 1)]) (N := n_p_parts_of) (sc := relS _ (defScope s_p_parts_of)) (by decide +kernel)) (fun _ _ _ _ _ => (pg_name (i := 1) sc_p_parts_of.nd rfl (by first | exact Or.inl rfl | exact Or.inr rfl))) (fun _ _ _ _ _ => (pts_one (pt_cmpR op_ne (pv 1) pe_str (nomark _)))) (fun _ _ _ _ _ => (pv 1))))))), ?_⟩
  refine ⟨_, rfl, ⟨_, rfl⟩, _, _, rfl, rfl, (by decide +kernel), bigl (by omega), fun p0 n0 => ⟨p0, rfl, ⟨_, .of upd_same⟩, fun D nD => ?_⟩⟩
  have h0 := same_upd (o := .lst ((Txt.split x (Str.ofString "\n")).map V.str)) n0
  have e0 : (upd H p0 (.lst ((Txt.split x (Str.ofString "\n")).map V.str))) p0 = some (.lst ((Txt.split x (Str.ofString "\n")).map V.str)) := upd_same
  generalize upd H p0 (.lst ((Txt.split x (Str.ofString "\n")).map V.str)) = H0 at h0 e0 nD ⊢
  refine lc_list (K := K) (a := p0) (xs := (Txt.split x (Str.ofString "\n")).map V.str) (fun i H' => ∃ as : List Addr, H' D = some (.lst (as.map V.ref)) ∧ Same H0 H' ∧ Paired (fun a ws => H a = none ∧ a ≠ D ∧ strsAt H' a ws) as ((partsS x).take i))
    ⟨[], upd_same, same_upd nD, by rw [List.take_zero]; exact .nil⟩ (fun i H' _ ⟨as, _, sm, _⟩ => .of (sm _ _ e0)) ?_ ?_
  · rintro i y H' hi ⟨as, eD, sm, pr⟩
    obtain ⟨p, rfl, hp⟩ := str_at hi
    have hpl : p.length ≤ 2000 := Nat.le_trans (c2 p (List.mem_of_getElem? hp)) hx
    obtain ⟨d1, d2⟩ := split_small (x := p) tl_blank (by decide)
    refine ⟨rfl, yes_if ?_⟩
    refine ⟨_, rfl, ⟨_, rfl⟩, _, _, rfl, rfl, (by decide +kernel), bigl (by omega), fun p1 n1 => ⟨p1, rfl, ⟨_, .of upd_same⟩, fun D1 nD1 => ?_⟩⟩
    have h1 := same_upd (o := .lst ((Txt.split p (Str.ofString " ")).map V.str)) n1
    have e1 : (upd H' p1 (.lst ((Txt.split p (Str.ofString " ")).map V.str))) p1 = some (.lst ((Txt.split p (Str.ofString " ")).map V.str)) := upd_same
    generalize upd H' p1 (.lst ((Txt.split p (Str.ofString " ")).map V.str)) = H1 at h1 e1 nD1 ⊢
    refine lc_list (K := K) (a := p1) (xs := (Txt.split p (Str.ofString " ")).map V.str) (fun j H'' => strsAt H'' D1 (((Txt.split p (Str.ofString " ")).take j).filter keepW) ∧ Same H1 H'')
      ⟨upd_same, same_upd nD1⟩ (fun j H'' _ h2 => .of (h2.2 _ _ e1)) ?_ ?_
    · rintro j y H'' hj ⟨eD1, sm1⟩
      obtain ⟨wd, rfl, hwd⟩ := str_at hj
      have hf := filter_take_succ keepW (Txt.split p (Str.ofString " ")) j wd hwd
      have hjl : j < (Txt.split p (Str.ofString " ")).length := (List.getElem?_eq_some_iff.mp hwd).1
      refine ⟨rfl, _, rfl, rfl, _, rfl, ite2 (fun hk => ?_) (fun hk => ?_)⟩
      · have hk : keepW wd = true := hk
        refine ⟨_, rfl, _, eD1, ?_, ?_, ?_⟩
        · rw [List.length_map]
          refine big (Nat.le_trans (List.length_filter_le _ _) ?_)
          rw [List.length_take]
          omega
        · show (upd H'' D1 _) D1 = _
          rw [upd_same, hf, if_pos hk, List.map_append]
          rfl
        · intro b o hb
          have hb2 := sm1 _ _ hb
          have nb : b ≠ D1 := ne_of_none hb nD1
          rw [upd_ne nb]
          exact hb2
      · have hk : ¬ keepW wd = true := hk
        have hk2 : keepW wd = false := by simpa using hk
        refine ⟨?_, sm1⟩
        rw [hf, hk2]
        simpa using eD1
    · rintro H'' ⟨eD1, sm1⟩
      rw [List.length_map, List.take_length] at eD1
      have eD2 : H'' D = some (.lst (as.map V.ref)) := sm1 _ _ (h1 _ _ eD)
      have nDD : D1 ≠ D := fun e => by
        rw [e] at nD1
        rw [h1 _ _ eD] at nD1
        cases nD1
      have fr : H D1 = none := by
        have z1 : H1 D1 = none := nD1
        exact h0.free (sm.free (h1.free z1))
      have hil : i < (Txt.split x (Str.ofString "\n")).length := (List.getElem?_eq_some_iff.mp hp).1
      have pl := pr.length
      have hpi : (partsS x)[i]? = some (wordsS p) := by
        unfold partsS
        rw [List.getElem?_map, hp]
        rfl
      refine ⟨_, eD2, ?_, as ++ [D1], ?_, ?_, ?_⟩
      · rw [List.length_map, pl, List.length_take]
        exact big (by omega)
      · rw [upd_same, List.map_append]
        rfl
      · intro b o hb
        have nb : b ≠ D := ne_of_none hb nD
        rw [upd_ne nb]
        exact sm1 _ _ (h1 _ _ (sm _ _ hb))
      · rw [List.take_add_one, hpi]
        refine Paired.snoc (paired_same ?_ pr) ⟨fr, nDD, ?_⟩
        · rintro a ws ⟨z1, z2, z3⟩
          refine ⟨z1, z2, ?_⟩
          show (upd H'' D _) a = _
          rw [upd_ne z2]
          exact sm1 _ _ (h1 _ _ z3)
        · show (upd H'' D _) D1 = _
          rw [upd_ne nDD]
          exact eD1
  · rintro H' ⟨as, eD, sm, pr⟩
    have e : (partsS x).take ((Txt.split x (Str.ofString "\n")).map V.str).length = partsS x := by
      apply List.take_of_length_le
      unfold partsS
      rw [List.length_map, List.length_map]
      exact Nat.le_refl _
    rw [e] at pr
    exact q D as H' (h0.trans sm) (h0.free nD) eD pr
end

/-! ### signs that may stand -/
def okS (z : Str) : Prop := ∀ c ∈ TL.tl z, c < 128
theorem okS.app {a b : Str} (ha : okS a) (hb : okS b) : okS (a ++ b) := fun c hc => by
  rw [TL.tl_append] at hc
  rcases List.mem_append.mp hc with h | h
  · exact ha c h
  · exact hb c h
theorem okS.none : okS (Str.ofString "") := fun c hc => by rw [tl_none] at hc; cases hc
theorem okS.blank : okS (Str.ofString " ") := fun c hc => by
  rw [tl_blank] at hc
  simp at hc
  omega
theorem okS.feed : okS (Str.ofString "\n") := fun c hc => by
  rw [tl_feed] at hc
  simp at hc
  omega
theorem okS.cut {z : Str} (h : okS z) (lo hi : Option Int) : okS (cutS z lo hi) := fun c hc => by
  have h1 : c ∈ (z.cps.toList.drop (HT.sIx z.length 0 lo)).take (HT.sIx z.length z.length hi - HT.sIx z.length 0 lo) := hc
  exact h c (List.mem_of_mem_drop (List.mem_of_mem_take h1))
theorem okS.ok {z : Str} (h : okS z) : PyData.strOk z = true := by
  unfold PyData.strOk
  rw [← Array.all_toList, List.all_eq_true]
  intro c hc
  have := h c hc
  simp
  omega
theorem cutC_sub (s : Nat) : ∀ (l : List Nat), ∀ p ∈ cutC s l, ∀ c ∈ p, c ∈ l
  | [], p, h, c, hc => by simp [cutC] at h; rw [h] at hc; cases hc
  | d :: r, p, h, c, hc => by
    unfold cutC at h
    split at h
    · rcases List.mem_cons.mp h with e | h
      · rw [e] at hc; cases hc
      · exact List.mem_cons_of_mem _ (cutC_sub s r p h c hc)
    · cases e : cutC s r with
      | nil => exact absurd e (cutC_ne s r)
      | cons a t =>
        rw [e] at h
        rcases List.mem_cons.mp h with h | h
        · rw [h] at hc
          rcases List.mem_cons.mp hc with h2 | h2
          · rw [h2]; exact List.mem_cons_self
          · exact List.mem_cons_of_mem _ (cutC_sub s r a (by rw [e]; exact List.mem_cons_self) c h2)
        · exact List.mem_cons_of_mem _ (cutC_sub s r p (by rw [e]; exact List.mem_cons_of_mem _ h) c hc)
theorem okS.split {x y : Str} {s : Nat} (ey : TL.tl y = [s]) (hk : s < 256) (h : okS x) : ∀ p ∈ Txt.split x y, okS p := fun p hp c hc =>
  h c (cutC_sub s (TL.tl x) (TL.tl p) (by rw [← split_cut ey hk]; exact List.mem_map.mpr ⟨p, hp, rfl⟩) c hc)
theorem okS.parts {x : Str} (h : okS x) : ∀ ws ∈ partsS x, ∀ w ∈ ws, okS w := fun ws hws w hw => by
  obtain ⟨p, hp, rfl⟩ := List.mem_map.mp hws
  exact okS.split tl_blank (by decide) (okS.split tl_feed (by decide) h p hp) w (List.mem_filter.mp hw).1
theorem okS_linesGo {wide : Int} : ∀ {ws : List Str} {cur : Str}, okS cur → (∀ w ∈ ws, okS w) → ∀ l ∈ linesGo wide cur ws, okS l
  | [], cur, hc, _, l, hl => by
    rw [List.mem_singleton.mp (show l ∈ [cur] from hl)]
    exact hc
  | w :: r, cur, hc, hw, l, hl => by
    unfold linesGo at hl
    have hw0 := hw w List.mem_cons_self
    have hwr : ∀ v ∈ r, okS v := fun v hv => hw v (List.mem_cons_of_mem _ hv)
    split at hl
    · exact okS_linesGo ((hc.app okS.blank).app hw0) hwr l hl
    · rcases List.mem_cons.mp hl with e | hl
      · rw [e]; exact hc
      · exact okS_linesGo hw0 hwr l hl
theorem okS.lines {wide : Int} {ws : List Str} (hw : ∀ w ∈ ws, okS w) : ∀ l ∈ linesS wide ws, okS l := fun l hl => by
  cases ws with
  | nil =>
    rw [List.mem_singleton.mp (show l ∈ [Str.ofString ""] from hl)]
    exact okS.none
  | cons w r => exact okS_linesGo (hw w List.mem_cons_self) (fun v hv => hw v (List.mem_cons_of_mem _ hv)) l hl
theorem okS.wrapped {x : Str} {wide : Int} (h : okS x) : ∀ l ∈ wrappedS x wide, okS l := fun l hl => by
  obtain ⟨ls, h1, h2⟩ := List.mem_flatten.mp hl
  obtain ⟨ws, h3, rfl⟩ := List.mem_map.mp h1
  exact okS.lines (h.parts ws h3) l h2
/-! ### lists of texts as data -/
def dat (ws : List Str) : PyData := .list (ws.map PyData.str)
theorem dp_all {K : PySem.W.Frag} {H : Hp} : ∀ ws : List Str, DpAll K H (ws.map V.str) (ws.map PyData.str)
  | [] => .nil
  | w :: r => .cons (.str w) (dp_all r)
theorem dp_strs {K : PySem.W.Frag} {H : Hp} {a : Addr} {ws : List Str} (h : SqL K H a (ws.map V.str)) : Dp K H (.ref a) (dat ws) := .lst h (dp_all ws)
theorem can_strs : ∀ ws : List Str, (∀ w ∈ ws, okS w) → PyData.canLayAll0 (ws.map PyData.str) = true
  | [], _ => rfl
  | w :: r, h => by
    show (PyData.strOk w && PyData.canLayAll0 (r.map PyData.str)) = true
    rw [(h w List.mem_cons_self).ok, can_strs r fun v hv => h v (List.mem_cons_of_mem _ hv)]
    rfl
theorem depth_strs : ∀ ws : List Str, PyData.depthAll (ws.map PyData.str) = 0
  | [] => rfl
  | w :: r => by
    show max 0 (PyData.depthAll (r.map PyData.str)) = 0
    rw [depth_strs r]
    rfl
theorem shaped_strs {ws : List Str} (h : ∀ w ∈ ws, okS w) : SeqAt.shaped (dat ws) = true := by
  unfold SeqAt.shaped dat
  rw [Bool.and_eq_true]
  refine ⟨can_strs ws h, ?_⟩
  show decide (PyData.depthAll (ws.map PyData.str) + 1 ≤ 64) = true
  rw [depth_strs]
  rfl
theorem eqv_dat : ∀ ws vs : List Str, PyData.eqv (dat ws) (dat vs) = decide (ws = vs) := by
  have key : ∀ ws vs : List Str, PyData.eqvAll (ws.map PyData.str) (vs.map PyData.str) = decide (ws = vs) := by
    intro ws
    induction ws with
    | nil =>
      intro vs
      cases vs with
      | nil => rfl
      | cons v r => simp [PyData.eqvAll]
    | cons w r ih =>
      intro vs
      cases vs with
      | nil => simp [PyData.eqvAll]
      | cons v q =>
        show (PyData.eqv (.str w) (.str v) && PyData.eqvAll (r.map PyData.str) (q.map PyData.str)) = _
        rw [ih q]
        show ((w == v) && decide (r = q)) = _
        by_cases h1 : w = v
        · by_cases h2 : r = q
          · simp [h1, h2]
          · simp [h1, h2]
        · simp [h1]
  intro ws vs
  exact key ws vs

/-! ### texts that are drawn -/
section
variable {X : Cx}
theorem op_rep_str : OpR X (binaryOp .Mult) (fun x y H Q => ∃ (c : Nat) (n : Int), x = .str ⟨#[c]⟩ ∧ y = .int n ∧ 0 ≤ n ∧ n ≤ 1000 ∧ ∀ out : Str, TL.tl out = List.replicate n.toNat c → Q (.str out) H) := by
  intro pins s σ H x y v u Q I rx ry h
  obtain ⟨c, n, rfl, rfl, n0, n1, q⟩ := h
  obtain ⟨t, rfl⟩ := rx
  obtain ⟨t2, rfl⟩ := ry
  have hz : (⟨#[c]⟩ : Str).length = 1 := rfl
  refine PySem.SB.mul ⟨?_, fun h1 _ => ?_, fun _ _ => ?_⟩ fun t' k => ⟨.str _, H, I.tok k, ⟨t', rfl⟩, q _ (PyProof.Rows.mul_one_list c n)⟩
  · rw [decide_eq_false (by omega), decide_eq_false (by omega)]
    rfl
  · have h2 : (2 ^ 63 - 1) / n ≥ (2 ^ 63 - 1) / 1000 := by
      have h3 : (2 ^ 63 - 1 : Int) / 1000 * n ≤ (2 ^ 63 - 1) / 1000 * 1000 := Int.mul_le_mul_of_nonneg_left n1 (by decide)
      exact Int.le_ediv_of_mul_le (by omega) (Int.le_trans h3 (by decide))
    have h4 : (2 ^ 63 - 1 : Int) / 1000 > 1000 := by decide
    rw [hz]
    omega
  · unfold Builtin.Str.tooLong
    rw [sizeLine_eq, hz]
    simp
    omega
end
theorem v_feed : V.str (Str.ofString "\n") = V.str ⟨#[10]⟩ := congrArg V.str (TL.ext_tl tl_feed)
theorem v_blank : V.str (Str.ofString " ") = V.str ⟨#[32]⟩ := congrArg V.str (TL.ext_tl tl_blank)
theorem okS_rep {out : Str} {n c : Nat} (h : TL.tl out = List.replicate n c) (hc : c < 128) : okS out ∧ out.length = n := by
  constructor
  · intro d hd
    rw [h] at hd
    rw [List.eq_of_mem_replicate hd]
    exact hc
  · rw [TL.len_tl, h, List.length_replicate]
theorem for_str {x : Str} {g : TG} {tb : TS} {D : Ends} {σ : L2.St} {H : Hp} (Pv : Nat → L2.St → Hp → Prop) (h0 : Pv 0 σ H)
    (hs : ∀ i c σ H, (TL.tl x)[i]? = some c → Pv i σ H → g (.str ⟨#[c]⟩) σ H fun σ2 H2 => tb { D with nx := Pv (i + 1), ct := Pv (i + 1), bk := D.nx } σ2 H2) (hd : ∀ σ H, Pv (TL.tl x).length σ H → D.nx σ H) :
    ∃ W : Nat → Nat → L2.St → Hp → Prop, (∃ m, W 0 m σ H) ∧ ∀ i m σ H, W i m σ H →
      ((Its x).stop i H ∧ D.nx σ H) ∨ ((Its x).go i H ∧ ∃ N : L2.St → Hp → Prop, (∀ σ' H', N σ' H' → ∃ m', m' < m ∧ W (i + 1) m' σ' H') ∧ ∀ y H', (Its x).yld i H y H' → g y σ H' fun σ2 H2 => tb { D with nx := N, ct := N, bk := D.nx } σ2 H2) := by
  have ex : x.cps.size = (TL.tl x).length := by simp [TL.tl]
  refine ⟨fun i m σ H => m = (TL.tl x).length - i ∧ i ≤ (TL.tl x).length ∧ Pv i σ H, ⟨_, rfl, Nat.zero_le _, h0⟩, ?_⟩
  rintro i m σ H ⟨rfl, hi, p⟩
  by_cases hl : i < (TL.tl x).length
  · refine .inr ⟨by show i < x.cps.size; omega, Pv (i + 1), fun σ' H' p' => ⟨_, by omega, rfl, hl, p'⟩, ?_⟩
    rintro y H' ⟨rfl, c, hc, rfl⟩
    refine hs i c _ _ ?_ p
    simpa [TL.tl] using hc
  · have e : i = (TL.tl x).length := by omega
    subst e
    exact .inl ⟨by show x.cps.size ≤ _; omega, hd _ _ p⟩
def spWord : Sp := fun vs H Q _ => ∃ p : Addr, vs = [.ref p] ∧ Src H p ∧ ∀ (z : Str) H', z.length ≤ 40 → okS z → Src H' p → Off p H H' → Q (.str z) H'
def spText : Sp := fun vs H Q _ => ∃ (p : Addr) (most : Nat), vs = [.ref p, .int (most : Int)] ∧ Src H p ∧ ∀ (z : Str) H', z.length ≤ most → okS z → Src H' p → Off p H H' → Q (.str z) H'
theorem joinL_nil_len : ∀ l : List (List Nat), (∀ w ∈ l, w.length ≤ 1) → (TL.joinL [] l).length ≤ l.length
  | [], _ => Nat.le_refl _
  | [w], h => by
    have := h w List.mem_cons_self
    show w.length ≤ 1
    exact this
  | w :: v :: r, h => by
    have h1 := h w List.mem_cons_self
    have h2 := joinL_nil_len (v :: r) fun z hz => h z (List.mem_cons_of_mem _ hz)
    show (w ++ ([] ++ TL.joinL [] (v :: r))).length ≤ _
    simp only [List.nil_append, List.length_append, List.length_cons] at h2 ⊢
    omega
theorem join_none_len {ys : List Str} (h : ∀ y ∈ ys, y.length ≤ 1) : (Txt.join (Str.ofString "") ys).length ≤ ys.length := by
  rw [TL.join_eq, TL.len_tl, TL.tl_join, tl_none]
  refine Nat.le_trans (joinL_nil_len _ ?_) (by rw [List.length_map]; exact Nat.le_refl _)
  intro w hw
  obtain ⟨y, hy, rfl⟩ := List.mem_map.mp hw
  rw [← TL.len_tl]
  exact h y hy
theorem joinL_nil_ok : ∀ l : List (List Nat), (∀ w ∈ l, ∀ c ∈ w, c < 128) → ∀ c ∈ TL.joinL [] l, c < 128
  | [], _, c, hc => by cases hc
  | [w], h, c, hc => h w List.mem_cons_self c hc
  | w :: v :: r, h, c, hc => by
    rcases List.mem_append.mp (show c ∈ w ++ ([] ++ TL.joinL [] (v :: r)) from hc) with h1 | h1
    · exact h w List.mem_cons_self c h1
    · exact joinL_nil_ok (v :: r) (fun z hz => h z (List.mem_cons_of_mem _ hz)) c h1
theorem join_none_ok {ys : List Str} (h : ∀ y ∈ ys, okS y) : okS (Txt.join (Str.ofString "") ys) := fun c hc => by
  rw [TL.join_eq, TL.tl_join, tl_none] at hc
  refine joinL_nil_ok _ ?_ c hc
  intro w hw
  obtain ⟨y, hy, rfl⟩ := List.mem_map.mp hw
  exact h y hy
theorem lit_ok : ∀ c ∈ TL.tl (Str.ofString "!\"#$&'()*+,-./0123456789:;<=>?@ABCDEFGHIJKLMNOPQRSTUVWXYZ[\\]^_`abcdefghijklmnopqrstuvwxyz{}~"), c < 128 := by decide +kernel
theorem sum_ones : ∀ (ys : List Str), (∀ y ∈ ys, y.length ≤ 1) → (ys.map (·.length)).sum ≤ ys.length
  | [], _ => by simp
  | y :: r, h => by
    have h1 := h y List.mem_cons_self
    have h2 := sum_ones r fun z hz => h z (List.mem_cons_of_mem _ hz)
    simp
    omega
theorem cut_most (z : Str) (most : Nat) : (cutS z none (some (most : Int))).length ≤ most := by
  show (((z.cps.toList.drop (HT.sIx z.length 0 none)).take (HT.sIx z.length z.length (some (most : Int)) - HT.sIx z.length 0 none)).toArray).size ≤ most
  rw [List.size_toArray, List.length_take, HT.sIx_none, show HT.sIx z.length z.length (some (most : Int)) = min most z.length from HT.sIx_nat _ _ most]
  omega
section
variable {P : Program} {w : World} {K : PySem.W.Frag} {mg : Str → Option Value} {base : Heap}
theorem ok_word (T : Txt K mg) : Ok P w K mg base CX0 "_law_word" s_word 3 ["_law_source_here"] spWord := by
  have O_next := ok_next (P := P) (w := w) (base := base) T
  refine T.h_word.ok sc_word (fun vs H Q E h => ?_) (fun f cdv A outer s H vs Q E hr h => ?_)
  · obtain ⟨p, rfl, _⟩ := h; rfl
  obtain ⟨p, rfl, hs, q⟩ := h
  refine ⟨_, (pss_cons (ps_set (i := 1) sc_word.nd rfl (by first | exact Or.inl rfl | exact Or.inr rfl) pe_str)
      (pss_cons (ps_set (i := 2) sc_word.nd rfl (by first | exact Or.inl rfl | exact Or.inr rfl) (pe_op op_add pe_int (callO O_next (hr.mono (by decide)) (by rfl) (pa_cons (pv 0) (pa_cons (pe_ix ix_list (pe_lst (pa_cons pe_int (pa_cons pe_int (pa_cons pe_int (pa_cons pe_int pa_nil))))) (callO O_next (hr.mono (by decide)) (by rfl) (pa_cons (pv 0) (pa_cons pe_int pa_nil))) (fun _ _ => rfl)) pa_nil)))))
      (pss_cons (ps_set (i := 3) sc_word.nd rfl (by first | exact Or.inl rfl | exact Or.inr rfl) (callO O_next (hr.mono (by decide)) (by rfl) (pa_cons (pv 0) (pa_cons pe_int pa_nil))))
      (pss_cons (ps_set (i := 4) sc_word.nd rfl (by first | exact Or.inl rfl | exact Or.inr rfl) (callO O_next (hr.mono (by decide)) (by rfl) (pa_cons (pv 0) (pa_cons pe_int pa_nil))))
      (pss_one (ps_ret (pe_join pe_str (pe_lc (own := [("_law_k", 5)]) (by rfl) sc_word.nd (pi_range1 (by rfl) T.m_range (pa_cons (pv 2) pa_nil)) (blkOk_by (own := [("_law_k", 5)]) (N := n_word) (sc := defScope s_word) (by decide +kernel)) (fun _ _ _ _ _ => (pg_name (i := 5) sc_word.nd rfl (by first | exact Or.inl rfl | exact Or.inr rfl))) (fun _ _ _ _ _ => pts_nil) (fun _ _ _ _ _ => (pe_ix ix_str (pv 1) (pe_op op_mod (pe_op op_add (pv 3) (pe_op op_mul (pv 4) (pv 5))) pe_int) (fun _ _ => rfl))))))))))), ?_⟩
  refine ⟨_, rfl, (by show 4 ≤ sizeLine; decide), fun l1 n1 => ?_⟩
  refine ⟨_, rfl, p, 4, rfl, by decide, by decide, hs.keep n1, fun r1 H1 a1 b1 s1 o1 => ?_⟩
  obtain ⟨m, ha, m0, m1⟩ : ∃ m : Int, atI [V.int 2, V.int 5, V.int 9, V.int 40] r1 = some (.int m) ∧ 0 < m ∧ m ≤ 40 := by
    rcases (show r1 = 0 ∨ r1 = 1 ∨ r1 = 2 ∨ r1 = 3 by omega) with rfl | rfl | rfl | rfl
    · exact ⟨2, rfl, by decide, by decide⟩
    · exact ⟨5, rfl, by decide, by decide⟩
    · exact ⟨9, rfl, by decide, by decide⟩
    · exact ⟨40, rfl, by decide, by decide⟩
  refine ⟨l1, _, _, _, rfl, rfl, .of (o1 _ _ upd_same (hs.ne_new n1)), ha, ?_⟩
  refine ⟨p, m, rfl, m0, by omega, s1, fun r2 H2 a2 b2 s2 o2 => ⟨_, _, rfl, rfl, ?_⟩⟩
  refine ⟨_, rfl, p, 92, rfl, by decide, by decide, s2, fun r3 H3 a3 b3 s3 o3 => ?_⟩
  refine ⟨_, rfl, p, 92, rfl, by decide, by decide, s3, fun r4 H4 a4 b4 s4 o4 => ?_⟩
  refine ⟨⟨_, rfl⟩, _, rfl, _, rfl, by omega, by omega, fun D nD => ?_⟩
  refine lc_range (lo := 0) (n := (1 + r2).toNat) (fun i H' => ∃ ys : List Str, strsAt H' D ys ∧ ys.length = i ∧ (∀ y ∈ ys, y.length ≤ 1 ∧ okS y) ∧ Same H4 H')
    ⟨[], upd_same, rfl, (fun y hy => by cases hy), same_upd nD⟩ ?_ ?_
  · rintro i H' hi ⟨ys, eD, el, hy, sm⟩
    refine ⟨rfl, yes_if ?_⟩
    have hk : (0 : Int) ≤ (r3 + r4 * (0 + i)) % 92 ∧ (r3 + r4 * (0 + i)) % 92 < 92 := ⟨Int.emod_nonneg _ (by decide), Int.emod_lt_of_pos _ (by decide)⟩
    refine ⟨_, rfl, _, rfl, _, rfl, _, rfl, _, _, rfl, rfl, .inl ⟨by omega, by omega⟩, _, _, rfl, rfl, _, _, rfl, rfl, (by show (0 : Int) < 92; decide), ?_⟩
    obtain ⟨c, hcm, hc⟩ := atI_mem (xs := (TL.tl (Str.ofString "!\"#$&'()*+,-./0123456789:;<=>?@ABCDEFGHIJKLMNOPQRSTUVWXYZ[\\]^_`abcdefghijklmnopqrstuvwxyz{}~"))) (i := (r3 + r4 * (0 + i)) % 92) hk.1 (by
      rw [show (TL.tl (Str.ofString "!\"#$&'()*+,-./0123456789:;<=>?@ABCDEFGHIJKLMNOPQRSTUVWXYZ[\\]^_`abcdefghijklmnopqrstuvwxyz{}~")).length = 92 by decide +kernel]
      exact hk.2)
    refine ⟨_, _, c, rfl, rfl, bigl (by decide +kernel), hc, _, eD, ?_, ys ++ [⟨#[c]⟩], ?_, ?_, ?_, ?_⟩
    · rw [List.length_map]
      exact big (by omega)
    · show (upd H' D _) D = _
      rw [upd_same, List.map_append]
      rfl
    · simp [el]
    · intro y hy2
      rcases List.mem_append.mp hy2 with h | h
      · exact hy y h
      · rw [List.mem_singleton.mp h]
        refine ⟨Nat.le_refl _, fun d hd => ?_⟩
        have e : d = c := List.mem_singleton.mp (show d ∈ [c] from hd)
        rw [e]
        exact lit_ok c hcm
    · intro b o hb
      have nb : b ≠ D := ne_of_none hb nD
      rw [upd_ne nb]
      exact sm _ _ hb
  · rintro H' ⟨ys, eD, el, hy, sm⟩
    have hl : ys.length ≤ 40 := by omega
    have hsum := sum_ones ys fun y h => (hy y h).1
    refine ⟨_, _, ys, rfl, rfl, .inl (.of eD), ?_, ?_⟩
    · have : ys.length * (Str.ofString "").length = 0 := by
        rw [show (Str.ofString "").length = 0 from rfl]
        exact Nat.mul_zero _
      omega
    · refine q _ H' (Nat.le_trans (join_none_len fun y h => (hy y h).1) hl) (join_none_ok fun y h => (hy y h).2) (s4.same sm) ?_
      exact (off_new n1).trans (o1.trans (o2.trans (o3.trans (o4.trans (.of sm)))))
theorem ok_text (T : Txt K mg) : Ok P w K mg base CX0 "_law_text" s_text 4 ["_law_source_here", "_law_most"] spText := by
  have O_next := ok_next (P := P) (w := w) (base := base) T
  have O_word := ok_word (P := P) (w := w) (base := base) T
  refine T.h_text.ok sc_text (fun vs H Q E h => ?_) (fun f cdv A outer s H vs Q E hr h => ?_)
  · obtain ⟨p, most, rfl, _⟩ := h; rfl
  obtain ⟨p, most, rfl, hs, q⟩ := h
  refine ⟨_, (pss_cons (ps_set (i := 2) sc_text.nd rfl (by first | exact Or.inl rfl | exact Or.inr rfl) pe_str)
      (pss_cons (ps_for PassesOwn.never rfl (pi_range1 (by rfl) T.m_range (pa_cons (callO O_next (hr.mono (by decide)) (by rfl) (pa_cons (pv 0) (pa_cons (pe_ix ix_list (pe_lst (pa_cons pe_int (pa_cons pe_int (pa_cons pe_int pa_nil)))) (callO O_next (hr.mono (by decide)) (by rfl) (pa_cons (pv 0) (pa_cons pe_int pa_nil))) (fun _ _ => rfl)) pa_nil))) pa_nil)) (pg_name (i := 3) sc_text.nd rfl (by first | exact Or.inl rfl | exact Or.inr rfl))
      (pss_cons (ps_set (i := 4) sc_text.nd rfl (by first | exact Or.inl rfl | exact Or.inr rfl) (callO O_next (hr.mono (by decide)) (by rfl) (pa_cons (pv 0) (pa_cons pe_int pa_nil))))
      (pss_cons (ps_if (pt_cmpR op_eq (pv 4) pe_int (nomark _))
      (pss_one (ps_set (i := 2) sc_text.nd rfl (by first | exact Or.inl rfl | exact Or.inr rfl) (pe_op op_add_str (pv 2) (pe_op op_rep_str pe_str (pe_op op_add pe_int (callO O_next (hr.mono (by decide)) (by rfl) (pa_cons (pv 0) (pa_cons pe_int pa_nil))))))))
      pss_nil)
      (pss_cons (ps_if (pt_cmpR op_eq (pv 4) pe_int (nomark _))
      (pss_one (ps_set (i := 2) sc_text.nd rfl (by first | exact Or.inl rfl | exact Or.inr rfl) (pe_op op_add_str (pv 2) (pe_op op_rep_str pe_str (pe_op op_add pe_int (callO O_next (hr.mono (by decide)) (by rfl) (pa_cons (pv 0) (pa_cons pe_int pa_nil))))))))
      pss_nil)
      (pss_one (ps_if (pt_cmpR op_gt (pv 4) pe_int (nomark _))
      (pss_one (ps_set (i := 2) sc_text.nd rfl (by first | exact Or.inl rfl | exact Or.inr rfl) (pe_op op_add_str (pe_op op_add_str (pv 2) (callO O_word (hr.mono (by decide)) (by rfl) (pa_cons (pv 0) pa_nil))) (pe_ix ix_list (pe_lst (pa_cons pe_str (pa_cons pe_str (pa_cons pe_str (pa_cons pe_str pa_nil))))) (callO O_next (hr.mono (by decide)) (by rfl) (pa_cons (pv 0) (pa_cons pe_int pa_nil))) (fun _ _ => rfl)))))
      pss_nil))))))
      (pss_one (ps_ret (pe_slice sl_str (pv 2) po_none (po_some (pv 1))))))), ?_⟩
  refine ⟨_, rfl, (by show 3 ≤ sizeLine; decide), fun l1 n1 => ?_⟩
  refine ⟨_, rfl, p, 3, rfl, by decide, by decide, hs.keep n1, fun r1 H1 a1 b1 s1 o1 => ?_⟩
  obtain ⟨m, ha, m0, m1⟩ : ∃ m : Int, atI [V.int 3, V.int 12, V.int 40] r1 = some (.int m) ∧ 0 < m ∧ m ≤ 40 := by
    rcases (show r1 = 0 ∨ r1 = 1 ∨ r1 = 2 by omega) with rfl | rfl | rfl
    · exact ⟨3, rfl, by decide, by decide⟩
    · exact ⟨12, rfl, by decide, by decide⟩
    · exact ⟨40, rfl, by decide, by decide⟩
  refine ⟨l1, _, _, _, rfl, rfl, .of (o1 _ _ upd_same (hs.ne_new n1)), ha, ?_⟩
  refine ⟨p, m, rfl, m0, by omega, s1, fun r2 H2 a2 b2 s2 o2 => ?_⟩
  have oA : Off p H H2 := (off_new n1).trans (o1.trans o2)
  refine ⟨r2, rfl, by omega, by omega, for_range (lo := 0) (n := r2.toNat) (fun i σ H' => (∃ (z : Str) (v3 v4 : Option V), z.length ≤ i * 45 ∧ okS z ∧ σ = [some (.ref p), some (.int (most : Int)), some (.str z), v3, v4]) ∧ Src H' p ∧ Off p H H')
    ⟨⟨_, _, _, Nat.zero_le _, okS.none, rfl⟩, s2, oA⟩ ?_ ?_⟩
  · rintro i σ H' hi ⟨⟨z, v3, v4, hz, okz, rfl⟩, sH, oH⟩
    refine ⟨_, rfl, p, 8, rfl, by decide, by decide, sH, fun r3 H3 a3 b3 s3 o3 => ?_⟩
    have o3' : Off p H H3 := oH.trans o3
    have hz2 : (i + 1) * 45 = i * 45 + 45 := by omega
    have zb : z.length ≤ 2000 := Nat.le_trans hz (Nat.le_trans (Nat.mul_le_mul_right 45 (show i ≤ 40 by omega)) (by decide))
    have no2 : ∀ {k : Int}, r3 = k → ¬ k = 0 → ¬ decide (V.int r3 = V.int 0) = true := fun e n h => n (e ▸ V.int.inj (of_decide_eq_true h))
    have no1 : ∀ {k : Int}, r3 = k → ¬ k = 1 → ¬ decide (V.int r3 = V.int 1) = true := fun e n h => n (e ▸ V.int.inj (of_decide_eq_true h))
    rcases (show r3 = 0 ∨ r3 = 1 ∨ 1 < r3 by omega) with e | e | e
    · refine ⟨_, rfl, rfl, _, rfl, ite2 (fun _ => ?_) (fun h => absurd (decide_eq_true (congrArg V.int e)) h)⟩
      refine ⟨_, rfl, _, rfl, p, 2, rfl, by decide, by decide, s3, fun r4 H4 a4 b4 s4 o4 => ⟨_, _, rfl, rfl, ?_⟩⟩
      refine ⟨10, _, v_feed, rfl, by omega, by omega, fun out ho => ?_⟩
      obtain ⟨ok4, ol4⟩ := okS_rep ho (by decide)
      have ho2 : out.length ≤ 2 := by omega
      refine ⟨_, _, rfl, rfl, bigl (by omega), ?_⟩
      refine ⟨_, rfl, rfl, _, rfl, ite2 (fun h => absurd h (no1 e (by decide))) (fun _ => ?_)⟩
      refine ⟨_, rfl, _, _, rfl, rfl, _, rfl, ite2 (fun h => ?_) (fun _ => ?_)⟩
      · have := of_decide_eq_true h; omega
      · exact ⟨⟨z ++ out, _, _, by rw [len_append]; omega, okz.app ok4, rfl⟩, s4, o3'.trans o4⟩
    · refine ⟨_, rfl, rfl, _, rfl, ite2 (fun h => absurd h (no2 e (by decide))) (fun _ => ?_)⟩
      refine ⟨_, rfl, rfl, _, rfl, ite2 (fun _ => ?_) (fun h => absurd (decide_eq_true (congrArg V.int e)) h)⟩
      refine ⟨_, rfl, _, rfl, p, 3, rfl, by decide, by decide, s3, fun r4 H4 a4 b4 s4 o4 => ⟨_, _, rfl, rfl, ?_⟩⟩
      refine ⟨32, _, v_blank, rfl, by omega, by omega, fun out ho => ?_⟩
      obtain ⟨ok4, ol4⟩ := okS_rep ho (by decide)
      have ho2 : out.length ≤ 3 := by omega
      refine ⟨_, _, rfl, rfl, bigl (by omega), ?_⟩
      refine ⟨_, rfl, _, _, rfl, rfl, _, rfl, ite2 (fun h => ?_) (fun _ => ?_)⟩
      · have := of_decide_eq_true h; omega
      · exact ⟨⟨z ++ out, _, _, by rw [len_append]; omega, okz.app ok4, rfl⟩, s4, o3'.trans o4⟩
    · refine ⟨_, rfl, rfl, _, rfl, ite2 (fun h => ?_) (fun _ => ?_)⟩
      · have := V.int.inj (of_decide_eq_true h); omega
      refine ⟨_, rfl, rfl, _, rfl, ite2 (fun h => ?_) (fun _ => ?_)⟩
      · have := V.int.inj (of_decide_eq_true h); omega
      refine ⟨_, rfl, _, _, rfl, rfl, _, rfl, ite2 (fun _ => ?_) (fun h => absurd (decide_eq_true e) h)⟩
      refine ⟨_, rfl, _, rfl, p, rfl, s3, fun wd H4 hwd okw s4 o4 => ?_⟩
      refine ⟨_, _, rfl, rfl, bigl (by omega), ?_⟩
      refine ⟨(by show 4 ≤ sizeLine; decide), fun l5 n5 => ?_⟩
      refine ⟨_, rfl, p, 4, rfl, by decide, by decide, s4.keep n5, fun r5 H5 a5 b5 s5 o5 => ?_⟩
      obtain ⟨tail, hat, htl, okt⟩ : ∃ t : Str, atI [V.str (Str.ofString " "), V.str (Str.ofString " "), V.str (Str.ofString " "), V.str (Str.ofString "")] r5 = some (.str t) ∧ t.length ≤ 1 ∧ okS t := by
        rcases (show r5 = 0 ∨ r5 = 1 ∨ r5 = 2 ∨ r5 = 3 by omega) with rfl | rfl | rfl | rfl
        · exact ⟨_, rfl, by decide +kernel, okS.blank⟩
        · exact ⟨_, rfl, by decide +kernel, okS.blank⟩
        · exact ⟨_, rfl, by decide +kernel, okS.blank⟩
        · exact ⟨_, rfl, by decide +kernel, okS.none⟩
      refine ⟨l5, _, _, _, rfl, rfl, .of (o5 _ _ upd_same (s4.ne_new n5)), hat, ?_⟩
      refine ⟨_, _, rfl, rfl, bigl (by rw [len_append]; omega), ?_⟩
      exact ⟨⟨z ++ wd ++ tail, _, _, by rw [len_append, len_append]; omega, (okz.app okw).app okt, rfl⟩, s5, o3'.trans (o4.trans ((off_new n5).trans o5))⟩
  · rintro σ H' ⟨⟨z, v3, v4, hz, okz, rfl⟩, sH, oH⟩
    have zb : z.length ≤ 2000 := Nat.le_trans hz (Nat.le_trans (Nat.mul_le_mul_right 45 (show r2.toNat ≤ 40 by omega)) (by decide))
    refine ⟨_, rfl, _, rfl, _, rfl, _, rfl, bigl (by omega), ?_⟩
    exact q _ H' (cut_most z most) (okz.cut _ _) sH oH
end

/-! ### greedy lines -/
def joinS (ws : List Str) : Str := Txt.join (Str.ofString " ") ws
def glue : Str → List Str → Str
  | cur, [] => cur
  | cur, w :: r => glue (gapS cur w) r
def fitGo (wide : Int) : Str → List Str → Nat
  | _, [] => 0
  | cur, w :: r => if ((gapS cur w).length : Int) ≤ wide then fitGo wide (gapS cur w) r + 1 else 0
def tailLines (wide : Int) (ws : List Str) : List Str := match ws with
  | [] => []
  | w :: r => linesGo wide w r
theorem joinL_snoc : ∀ (l : List (List Nat)) (w : List Nat), l ≠ [] → TL.joinL [32] (l ++ [w]) = TL.joinL [32] l ++ (32 :: w)
  | [], _, h => absurd rfl h
  | [p], w, _ => rfl
  | p :: q :: r, w, _ => by
    have ih := joinL_snoc (q :: r) w (by simp)
    show p ++ ([32] ++ TL.joinL [32] ((q :: r) ++ [w])) = (p ++ ([32] ++ TL.joinL [32] (q :: r))) ++ (32 :: w)
    rw [ih]
    simp
theorem join_snoc {l : List Str} (h : l ≠ []) (w : Str) : joinS (l ++ [w]) = gapS (joinS l) w := by
  apply TL.ext_tl
  unfold joinS gapS
  rw [TL.join_eq, TL.tl_join, TL.tl_append, TL.tl_append, TL.join_eq, TL.tl_join, tl_blank, List.map_append]
  show TL.joinL [32] (l.map TL.tl ++ [TL.tl w]) = _
  rw [joinL_snoc _ _ (by simpa using h)]
  simp
theorem join_one (w : Str) : joinS [w] = w := by
  apply TL.ext_tl
  unfold joinS
  rw [TL.join_eq, TL.tl_join]
  rfl
theorem glue_snoc : ∀ (l : List Str) (cur w : Str), glue cur (l ++ [w]) = gapS (glue cur l) w
  | [], _, _ => rfl
  | v :: r, cur, w => glue_snoc r (gapS cur v) w
theorem join_glue_from : ∀ (l pre : List Str), pre ≠ [] → joinS (pre ++ l) = glue (joinS pre) l
  | [], pre, _ => by rw [List.append_nil]; rfl
  | w :: r, pre, h => by
    have ih := join_glue_from r (pre ++ [w]) (by simp)
    rw [List.append_assoc] at ih
    rw [show pre ++ w :: r = pre ++ ([w] ++ r) from rfl, ih, join_snoc h]
    rfl
theorem join_glue (w0 : Str) (l : List Str) : joinS (w0 :: l) = glue w0 l := by
  have h := join_glue_from l [w0] (by simp)
  rw [join_one] at h
  exact h
theorem fit_le (wide : Int) : ∀ (r : List Str) (cur : Str), fitGo wide cur r ≤ r.length
  | [], _ => Nat.le_refl _
  | w :: r, cur => by
    unfold fitGo
    split
    · have := fit_le wide r (gapS cur w); simp; omega
    · simp
theorem lines_head (wide : Int) : ∀ (r : List Str) (cur : Str), linesGo wide cur r = glue cur (r.take (fitGo wide cur r)) :: tailLines wide (r.drop (fitGo wide cur r))
  | [], cur => rfl
  | w :: r, cur => by
    unfold linesGo fitGo
    split
    · rw [lines_head wide r (gapS cur w)]
      rfl
    · rfl
theorem tail_cons (wide : Int) (w : Str) (r : List Str) : tailLines wide (w :: r) = joinS ((w :: r).take (1 + fitGo wide w r)) :: tailLines wide ((w :: r).drop (1 + fitGo wide w r)) := by
  show linesGo wide w r = _
  rw [lines_head, Nat.add_comm 1, List.take_succ_cons, List.drop_succ_cons, join_glue]
theorem lines_tail (wide : Int) {ws : List Str} (h : ws ≠ []) : linesS wide ws = tailLines wide ws := by
  cases ws with
  | nil => exact absurd rfl h
  | cons w r => rfl
theorem fit_step {wide : Int} {ws : List Str} {k : Nat} {v : Str} (h : ws[k]? = some v) (h1 : 1 ≤ k) : fitGo wide (joinS (ws.take k)) (ws.drop k) = if ((joinS (ws.take (k + 1))).length : Int) ≤ wide then fitGo wide (joinS (ws.take (k + 1))) (ws.drop (k + 1)) + 1 else 0 := by
  obtain ⟨hk, hv⟩ := List.getElem?_eq_some_iff.mp h
  have e1 : joinS (ws.take (k + 1)) = gapS (joinS (ws.take k)) v := by
    rw [List.take_add_one, h]
    exact join_snoc (fun z => by
      have := congrArg List.length z
      rw [List.length_take, List.length_nil] at this
      omega) v
  rw [e1, List.drop_eq_getElem_cons hk, hv]
  rfl
theorem join_sum_len : ∀ l : List (List Nat), (TL.joinL [32] l).length ≤ (l.map (fun w => w.length + 1)).sum
  | [] => Nat.le_refl _
  | [p] => by simp [TL.joinL]
  | p :: q :: r => by
    have ih := join_sum_len (q :: r)
    show (p ++ ([32] ++ TL.joinL [32] (q :: r))).length ≤ _
    simp only [List.length_append, List.length_cons, List.length_nil, List.map_cons, List.sum_cons] at ih ⊢
    omega
theorem sum_le {α : Type} (f : α → Nat) (b : Nat) : ∀ l : List α, (∀ a ∈ l, f a ≤ b) → (l.map f).sum ≤ l.length * b
  | [], _ => by simp
  | a :: r, h => by
    have h1 := h a List.mem_cons_self
    have h2 := sum_le f b r fun x hx => h x (List.mem_cons_of_mem _ hx)
    simp only [List.map_cons, List.sum_cons, List.length_cons, Nat.add_mul, Nat.one_mul]
    omega
theorem joinS_len {ws : List Str} (hn : ws.length ≤ 2001) (hw : ∀ w ∈ ws, w.length ≤ 2000) : (joinS ws).length ≤ 4004001 := by
  unfold joinS
  rw [TL.join_eq, TL.len_tl, TL.tl_join, tl_blank]
  refine Nat.le_trans (join_sum_len _) ?_
  rw [List.map_map]
  refine Nat.le_trans (sum_le _ 2001 ws fun w h => ?_) (Nat.le_trans (Nat.mul_le_mul_right 2001 hn) (by decide))
  show (TL.tl w).length + 1 ≤ 2001
  rw [← TL.len_tl]
  have := hw w h
  omega
theorem join_size {ws : List Str} (hn : ws.length ≤ 2001) (hw : ∀ w ∈ ws, w.length ≤ 2000) : (ws.map (·.length)).sum + ws.length * (Str.ofString " ").length ≤ 16777216 := by
  have h1 : (ws.map (·.length)).sum ≤ ws.length * 2000 := sum_le _ 2000 ws hw
  have h2 : ws.length * 2000 ≤ 2001 * 2000 := Nat.mul_le_mul_right _ hn
  rw [show (Str.ofString " ").length = 1 by decide +kernel]
  omega
theorem cut_to {α : Type} (f : α → V) (l : List α) (k : Nat) : cutV (l.map f) none (some (k : Int)) = (l.take k).map f := by
  unfold cutV
  rw [HT.sIx_none, show HT.sIx (l.map f).length (l.map f).length (some (k : Int)) = min k (l.map f).length from HT.sIx_nat _ _ k, List.drop_zero, Nat.sub_zero, ← List.map_take, List.length_map]
  congr 1
  rcases Nat.le_total k l.length with h | h
  · rw [Nat.min_eq_left h]
  · rw [Nat.min_eq_right h, List.take_length, List.take_of_length_le h]
theorem cut_from {α : Type} (f : α → V) (l : List α) (k : Nat) : cutV (l.map f) (some (k : Int)) none = (l.drop k).map f := by
  unfold cutV
  rw [HT.sIx_none, show HT.sIx (l.map f).length 0 (some (k : Int)) = min k (l.map f).length from HT.sIx_nat _ _ k, ← List.map_drop, ← List.map_take, List.length_map]
  congr 1
  rcases Nat.le_total k l.length with h | h
  · rw [Nat.min_eq_left h]
    exact List.take_of_length_le (by rw [List.length_drop]; exact Nat.le_refl _)
  · rw [Nat.min_eq_right h, List.drop_length, List.drop_eq_nil_of_le h]
    simp
theorem cut_at {α : Type} (f : α → V) (l : List α) (k : Nat) : cutV (l.map f) (some (k : Int)) (some ((k + 1 : Nat) : Int)) = ((l.drop k).take 1).map f := by
  unfold cutV
  rw [show HT.sIx (l.map f).length 0 (some (k : Int)) = min k (l.map f).length from HT.sIx_nat _ _ k, show HT.sIx (l.map f).length (l.map f).length (some ((k + 1 : Nat) : Int)) = min (k + 1) (l.map f).length from HT.sIx_nat _ _ (k + 1), ← List.map_drop, ← List.map_take, List.length_map]
  congr 1
  rcases Nat.lt_or_ge k l.length with h | h
  · rw [Nat.min_eq_left (Nat.le_of_lt h), Nat.min_eq_left h, show k.succ - k = 1 by omega]
  · rw [Nat.min_eq_right h, List.drop_length, List.drop_eq_nil_of_le h]
    simp
/-- sep.join(xs), K told -/
def rJoin (K : PySem.W.Frag) : V → List V → Hp → VK → Prop := fun x xs H Q =>
  ∃ a p, ∃ ys : List Str, x = .str a ∧ xs = [.ref p] ∧ (SqL K H p (ys.map V.str) ∨ SqT K H p (ys.map V.str)) ∧ (ys.map (·.length)).sum + ys.length * a.length ≤ 16777216 ∧ Q (.str (Txt.join a ys)) H

/-! ### the longest word, the wish -/
theorem walk_list {K : PySem.W.Frag} {a : Addr} {xs : List V} {g : TG} {σ : L2.St} {H1 : Hp} {Qd : Hp → Prop} {Bd : L2.St → Hp → (Hp → Prop) → Prop} (Pv : Nat → Hp → Prop) (h0 : Pv 0 H1) (hl : ∀ i H, i ≤ xs.length → Pv i H → SqL K H a xs)
    (hs : ∀ i x H, xs[i]? = some x → Pv i H → g x σ H fun σ2 H2 => Bd σ2 H2 (Pv (i + 1))) (hd : ∀ H, Pv xs.length H → Qd H) :
    ∃ W : Nat → Nat → Hp → Prop, (∃ m, W 0 m H1) ∧ ∀ i m H, W i m H → ((Itl K a).stop i H ∧ Qd H) ∨
      ((Itl K a).go i H ∧ ∃ Nx : Hp → Prop, (∀ H', Nx H' → ∃ m', m' < m ∧ W (i + 1) m' H') ∧ ∀ x H', (Itl K a).yld i H x H' → g x σ H' fun σ2 H2 => Bd σ2 H2 Nx) := by
  refine ⟨fun i m H => m = xs.length - i ∧ i ≤ xs.length ∧ Pv i H, ⟨_, rfl, Nat.zero_le _, h0⟩, ?_⟩
  rintro i m H ⟨rfl, hi, p⟩
  have q := hl i H hi p
  by_cases hlt : i < xs.length
  · refine .inr ⟨⟨xs, xs[i], q, List.getElem?_eq_getElem hlt⟩, Pv (i + 1), fun H' p' => ⟨_, by omega, rfl, hlt, p'⟩, ?_⟩
    rintro x H' ⟨rfl, y⟩
    exact hs i x _ (y xs q) p
  · have e : i = xs.length := by omega
    subst e
    exact .inl ⟨⟨xs, q, Nat.le_refl _⟩, hd H p⟩
def maxN : List Nat → Nat
  | [] => 0
  | a :: r => max a (maxN r)
theorem maxN_ge : ∀ {l : List Nat} {a : Nat}, a ∈ l → a ≤ maxN l
  | b :: r, a, h => by
    rcases List.mem_cons.mp h with h | h
    · rw [h]; exact Nat.le_max_left _ _
    · exact Nat.le_trans (maxN_ge h) (Nat.le_max_right _ _)
theorem maxN_le : ∀ {l : List Nat} {b : Nat}, (∀ a ∈ l, a ≤ b) → maxN l ≤ b
  | [], _, _ => Nat.zero_le _
  | a :: r, b, h => Nat.max_le.mpr ⟨h a List.mem_cons_self, maxN_le fun x hx => h x (List.mem_cons_of_mem _ hx)⟩
theorem maxN_app (l m : List Nat) : maxN (l ++ m) = max (maxN l) (maxN m) := by
  induction l with
  | nil => exact (Nat.zero_max _).symm
  | cons a r ih =>
    show max a (maxN (r ++ m)) = max (max a (maxN r)) (maxN m)
    rw [ih, Nat.max_assoc]
theorem max_is {l : List Nat} {m : Int} (h1 : m ∈ l.map (fun n : Nat => (n : Int))) (h2 : ∀ y ∈ l.map (fun n : Nat => (n : Int)), y ≤ m) : m = (maxN l : Int) := by
  obtain ⟨n, hn, rfl⟩ := List.mem_map.mp h1
  have h3 := maxN_ge hn
  have h4 : maxN l ≤ n := maxN_le fun a ha => by
    have := h2 _ (List.mem_map.mpr ⟨a, ha, rfl⟩)
    omega
  omega
def longN (x : Str) : Nat := maxN ((partsS x).flatten.map (·.length))
def wishN (x : Str) : Nat := maxN ((partsS x).map fun ws => (joinS ws).length)
def spLongest : Sp := fun vs H Q _ => ∃ x : Str, vs = [.str x] ∧ x.length ≤ 2000 ∧ ∀ H', Same H H' → Q (.int (longN x : Int)) H'
def spWished : Sp := fun vs H Q _ => ∃ x : Str, vs = [.str x] ∧ x.length ≤ 2000 ∧ ∀ H', Same H H' → Q (.int (wishN x : Int)) H'
theorem parts_ne (x : Str) : partsS x ≠ [] := fun z => by
  have h := congrArg List.length (split_cut tl_feed (by decide) x)
  rw [List.length_map] at h
  unfold partsS at z
  rw [List.map_eq_nil_iff] at z
  rw [z] at h
  have h2 := cutC_ne 10 (TL.tl x)
  cases e : cutC 10 (TL.tl x) with
  | nil => exact absurd e h2
  | cons a b => rw [e] at h; cases h
theorem flat_id_take {β : Type} {l : List (List β)} {i : Nat} {a : List β} (h : l[i]? = some a) : (l.take (i + 1)).flatten = (l.take i).flatten ++ a := by
  rw [List.take_add_one, h, List.flatten_append]
  simp
theorem flat_le {l : List (List Str)} (h1 : l.length ≤ 2001) (h2 : ∀ ws ∈ l, ws.length ≤ 2001) : l.flatten.length ≤ 2001 * 2001 := by
  have h := flat_len (fun ws : List Str => ws) 2001 l h2
  rw [List.map_id'] at h
  exact Nat.le_trans h (Nat.mul_le_mul_right _ h1)
section
variable {P : Program} {w : World} {K : PySem.W.Frag} {mg : Str → Option Value} {base : Heap}
theorem ok_longest (T : Txt K mg) : Ok P w K mg base CX0 "longest" s_p_longest 2 ["text"] spLongest := by
  have O_p_refuse_no_text := ok_no_text (P := P) (w := w) (base := base) T
  have O_p_parts_of := ok_parts (P := P) (w := w) (base := base) T
  refine T.h_p_longest.ok sc_p_longest (fun vs H Q E h => ?_) (fun f cdv A outer s H vs Q E hr h => ?_)
  · obtain ⟨x, rfl, _⟩ := h; rfl
  obtain ⟨x, rfl, hx, q⟩ := h
  obtain ⟨c1, c2⟩ := partsS_small hx
  refine ⟨_, (pss_cons (ps_expr (callO O_p_refuse_no_text (hr.mono (by decide)) (by rfl) (pa_cons (pv 0) pa_nil)))
      (pss_one (ps_ret (pe_callBK (MxD.cr_maxD rfl) (by rfl) T.m_max (by decide +kernel) (pa_cons (pe_lc2 (own := [("words", 1), ("word", 2)]) (vs1 := [2]) (wi1 := (iList K (tVar 1))) (by rfl) sc_p_longest.nd (pi_list (callO O_p_parts_of (hr.mono (by decide)) (by rfl) (pa_cons (pv 0) pa_nil))) (blkOk_by (own := [("words", 1), ("word", 2)]) (N := n_p_longest) (sc := defScope s_p_longest) (by decide +kernel)) (by decide) (fun _ _ _ _ _ => (pg_name (i := 1) sc_p_longest.nd rfl (by first | exact Or.inl rfl | exact Or.inr rfl))) (fun _ _ _ _ _ => pts_nil) (fun _ _ _ _ _ => (pi_list (pv 1))) (fun _ _ _ _ _ => (pg_name (i := 2) sc_p_longest.nd rfl (by first | exact Or.inl rfl | exact Or.inr rfl))) (fun _ _ _ _ _ => pts_nil) (fun _ _ _ _ _ => (pe_callB call_len_str (by rfl) T.m_len (by decide +kernel) (pa_cons (pv 2) pa_nil)))) pa_nil) (pk_cons pe_int pk_nil))))), ?_⟩
  refine ⟨_, rfl, x, rfl, ?_⟩
  refine ⟨_, rfl, x, rfl, hx, fun p as HB sB nP eP pr => ⟨p, rfl, ⟨_, .of eP⟩, fun D nD => ?_⟩⟩
  refine walk_list (K := K) (a := p) (xs := as.map V.ref) (fun i H' => H' D = some (.lst ((((partsS x).take i).flatten.map fun w => ((w.length : Nat) : Int)).map V.int)) ∧ Same HB H')
    ⟨upd_same, same_upd nD⟩ (fun i H' _ h => .of (h.2 _ _ eP)) ?_ ?_
  · rintro i y H' hi ⟨eD, sm⟩
    obtain ⟨a, rfl, ha⟩ := ref_at hi
    obtain ⟨ws, hws, fa, nap, ea⟩ := paired_get pr ha
    obtain ⟨d1, d2⟩ := c2 ws (List.mem_of_getElem? hws)
    have hil : i < (partsS x).length := (List.getElem?_eq_some_iff.mp hws).1
    have fl := flat_le (l := (partsS x).take i) (by rw [List.length_take]; omega) (fun v hv => (c2 v (List.mem_of_mem_take hv)).1)
    refine ⟨rfl, yes_if ?_⟩
    refine ⟨_, rfl, a, rfl, ⟨_, .of (sm _ _ ea)⟩, ?_⟩
    refine walk_list (K := K) (a := a) (xs := ws.map V.str) (fun j H'' => H'' D = some (.lst (((((partsS x).take i).flatten ++ ws.take j).map fun w => ((w.length : Nat) : Int)).map V.int)) ∧ Same HB H'')
      ⟨by rw [List.take_zero, List.append_nil]; exact eD, sm⟩ (fun j H'' _ h => .of (h.2 _ _ ea)) ?_ ?_
    · rintro j y H'' hj ⟨eD1, sm1⟩
      obtain ⟨wd, rfl, hwd⟩ := str_at hj
      have hjl : j < ws.length := (List.getElem?_eq_some_iff.mp hwd).1
      have wl := d2 wd (List.mem_of_getElem? hwd)
      refine ⟨rfl, yes_if ?_⟩
      refine ⟨_, rfl, wd, rfl, bigl (by omega), _, eD1, ?_, ?_, ?_⟩
      · rw [List.length_map, List.length_map, List.length_append, List.length_take]
        exact big (by omega)
      · rw [upd_same, List.take_add_one, hwd, ← List.append_assoc, List.map_append (l₂ := (some wd).toList), List.map_append (l₂ := ((some wd).toList).map _)]
        rfl
      · intro b o hb
        rw [upd_ne (ne_of_none hb nD)]
        exact sm1 _ _ hb
    · rintro H'' ⟨eD1, sm1⟩
      rw [List.length_map, List.take_length] at eD1
      refine ⟨?_, sm1⟩
      rw [flat_id_take hws]
      exact eD1
  · rintro H' ⟨eD, sm⟩
    rw [List.length_map, pr.length, List.take_length] at eD
    have sH := sB.trans sm
    refine ⟨D, _, 0, rfl, rfl, .of eD, fun e => ?_, fun m h1 h2 => ?_⟩
    · have e2 : longN x = 0 := by
        unfold longN
        rw [List.map_eq_nil_iff.mp e]
        rfl
      have h := q _ sH
      rw [e2] at h
      exact h
    · have e2 : m = (longN x : Int) := by
        refine max_is (l := (partsS x).flatten.map (·.length)) ?_ ?_
        · rw [List.map_map]
          exact h1
        · rw [List.map_map]
          exact h2
      rw [e2]
      exact q _ sH
theorem ok_wished (T : Txt K mg) : Ok P w K mg base CX0 "wished" s_p_wished 2 ["text"] spWished := by
  have O_p_refuse_no_text := ok_no_text (P := P) (w := w) (base := base) T
  have O_p_parts_of := ok_parts (P := P) (w := w) (base := base) T
  refine T.h_p_wished.ok sc_p_wished (fun vs H Q E h => ?_) (fun f cdv A outer s H vs Q E hr h => ?_)
  · obtain ⟨x, rfl, _⟩ := h; rfl
  obtain ⟨x, rfl, hx, q⟩ := h
  obtain ⟨c1, c2⟩ := partsS_small hx
  refine ⟨_, (pss_cons (ps_expr (callO O_p_refuse_no_text (hr.mono (by decide)) (by rfl) (pa_cons (pv 0) pa_nil)))
      (pss_one (ps_ret (pe_callB (cr_max rfl) (by rfl) T.m_max (by decide +kernel) (pa_cons (pe_lc (own := [("words", 1)]) (te := (tCB _ (tCons (tM1 (rJoin K) _ (tVar 1)) tNil))) (by rfl) sc_p_wished.nd (pi_list (callO O_p_parts_of (hr.mono (by decide)) (by rfl) (pa_cons (pv 0) pa_nil))) (blkOk_by (own := [("words", 1)]) (N := n_p_wished) (sc := defScope s_p_wished) (by decide +kernel)) (fun _ _ _ _ _ => (pg_name (i := 1) sc_p_wished.nd rfl (by first | exact Or.inl rfl | exact Or.inr rfl))) (fun _ _ _ _ _ => pts_nil) (fun _ _ _ _ _ => (pe_callB call_len_str (by rfl) T.m_len (by decide +kernel) (pa_cons (pe_join pe_str (pv 1)) pa_nil)))) pa_nil))))), ?_⟩
  refine ⟨_, rfl, x, rfl, ?_⟩
  refine ⟨_, rfl, x, rfl, hx, fun p as HB sB nP eP pr => ⟨p, rfl, ⟨_, .of eP⟩, fun D nD => ?_⟩⟩
  refine lc_list (K := K) (a := p) (xs := as.map V.ref) (fun i H' => H' D = some (.lst ((((partsS x).take i).map fun ws => (((joinS ws).length : Nat) : Int)).map V.int)) ∧ Same HB H')
    ⟨upd_same, same_upd nD⟩ (fun i H' _ h => .of (h.2 _ _ eP)) ?_ ?_
  · rintro i y H' hi ⟨eD, sm⟩
    obtain ⟨a, rfl, ha⟩ := ref_at hi
    obtain ⟨ws, hws, fa, nap, ea⟩ := paired_get pr ha
    obtain ⟨d1, d2⟩ := c2 ws (List.mem_of_getElem? hws)
    have hil : i < (partsS x).length := (List.getElem?_eq_some_iff.mp hws).1
    have jl := joinS_len d1 d2
    refine ⟨rfl, yes_if ?_⟩
    refine ⟨⟨_, rfl⟩, _, rfl, _, a, ws, rfl, rfl, .inl (.of (sm _ _ ea)), join_size d1 d2, _, rfl, bigl (by unfold joinS at jl; omega), _, eD, ?_, ?_, ?_⟩
    · rw [List.length_map, List.length_map, List.length_take]
      exact big (by omega)
    · rw [upd_same, List.take_add_one, hws, List.map_append (l₂ := (some ws).toList), List.map_append (l₂ := ((some ws).toList).map _)]
      rfl
    · intro b o hb
      rw [upd_ne (ne_of_none hb nD)]
      exact sm _ _ hb
  · rintro H' ⟨eD, sm⟩
    rw [List.length_map, pr.length, List.take_length] at eD
    have sH := sB.trans sm
    refine ⟨D, _, rfl, .of eD, ?_, fun m h1 h2 => ?_⟩
    · rw [List.length_map]
      exact List.length_pos_iff.mpr (parts_ne x)
    · have e2 : m = (wishN x : Int) := by
        refine max_is (l := (partsS x).map fun ws => (joinS ws).length) ?_ ?_
        · rw [List.map_map]
          exact h1
        · rw [List.map_map]
          exact h2
      rw [e2]
      exact q _ sH
end

/-! ### readings that want a token to be out -/
section
variable {X : Cx} {e f : Expr} {te tf : TE} {rest : List Stmt} {t u : TS}
def PE1 (X : Cx) (e : Expr) (t : TE) : Prop := ∀ (pins : List (Addr × Obj)) (s : Shared) (σ : L2.St) (H : Hp) (Q : VK), Inv X pins σ H s → t σ H Q → wpAny (model X.prog X.w) X.A (eval e X.env) (fun v s' => 1 ≤ s'.toks ∧ EP X pins σ Q v s') X.xe s
theorem pe1_join {c : Str} {j : Nat} {c0 apos pos : Pos} (he : PE X e te) (hs : starEach [e] X.env = [(false, eval e X.env)] := by rfl) (hbase : attributeBase (.Constant (.str c) j c0) "join" X.env (eval (.Constant (.str c) j c0) X.env) = eval (.Constant (.str c) j c0) X.env := by rfl)
    (hline : (apos.endLine == pos.line) = true := by rfl) : PE1 X (.Call (.Attribute (.Constant (.str c) j c0) "join" apos) [e] [] pos) (tM1 (rJoin X.K) (tC (.str c)) te) := by
  intro pins s σ H Q I h
  obtain ⟨_, q1⟩ := h
  refine PySem.Call_method1 hbase hs hline (Calls.Constant_str ?_)
  refine ⟨"str", _, F.plainAttrs_str, F.slot_str_join, F.type_str_join, typeIs_str _ _ _, (fun _ z => nomatch z), ?_⟩
  refine wpAny_mono (wpAny_toks_of (n := 1) (by show 1 ≤ s.toks + 1; omega) (Q := EP X pins σ Q) (E := X.xe) (Calls.callWith_builtin rfl (Calls.evalArgs_plain (Calls.spliced_cons ?_)))) (fun _ _ x => x) (fun _ _ x => x.2)
  exact thn (he.run pins { s with toks := s.toks + 1 } σ H _ (I.tok _) q1) fun v s2 ⟨y, H2, I2, r2, q2⟩ => Calls.spliced_nil (mt_join pins s2 σ H2 (.str c) [y] _ [v] Q I2 ⟨_, rfl⟩ (.cons r2 .nil) q2)
theorem pss_set1 {i : Nat} {x : Str} {pos' pos : Pos} (hN : X.N.Nodup) (hi : X.N[i]? = some x) (hx : Loc X.env.scope x) (he : PE1 X e te) (h2 : PSsT X rest u)
    (hs : swapsWith e (some (.Name x pos')) pos.line X.env = pure false := by rfl) (hf : X.fn x = true ∨ X.env.scope.names.lookup x = some .local := by first | exact .inl rfl | exact .inr rfl | assumption) :
    PSs X (.Assign [.Name x pos'] e pos :: rest) (tSeq (tAsg te (gName i)) u) := by
  refine ⟨fun pins s σ H D I h => ?_⟩
  refine wpAny_execs_cons (wpAny_Assign_Name (thn (he pins s σ H _ I h) fun v s1 ⟨k1, y, H1, I1, r1, q1⟩ => ?_) hs)
  refine wpAny_mono (wpAny_toks_of k1 (store_ok (Q := fun _ s2 => Inv X pins (σ.set i (some y)) H1 s2) I1 hN hi hx r1 (fun _ I2 => I2) hf)) (fun _ s2 q => ?_) fun _ _ z => z.2
  exact h2 pins s2 _ H1 D q.1 q.2 q1
theorem pet_cmpR {op : CmpOp} {r : R2} {pos : Pos} (ho : OpR X (compareOp op) r) (ha : PET X e te) (hb : PE X f tf) (hm : behindInMarks op f = false) : PET X (.Compare e [op] [f] pos) (tOp r te tf) := by
  intro pins s σ H Q h0 I h
  exact wpAny_Compare1 (thn (ha pins s σ H _ h0 I h) fun v s1 ⟨x, H1, I1, r1, q1⟩ => thn (hb.run pins s1 σ H1 _ I1 q1) fun u s2 ⟨y, H2, I2, r2, q2⟩ => ho pins s2 σ H2 x y v u Q I2 r1 r2 q2) hm
theorem pet_callO {x : Str} {st : Stmt} {k : Nat} {ps : List Str} {sp : Sp} {es : List Expr} {ta : TA} {p pos : Pos} (O : Ok X.prog X.w X.K X.mg X.base CX0 x st k ps sp) (hr : Room k X.A) (hg : Gl X x) (ha : PAT X (e :: es) ta) (hdb : (x == ("__debug__" : Str)) = false := by decide)
    (he : starEach (e :: es) X.env = (false, eval e X.env) :: starEach es X.env := by rfl) (hpl : (backTo pos (starEach es X.env)).any (·.1) = false := by rfl) : PET X (.Call (.Name x p) (e :: es) [] pos) (tCall sp [] E0 ta) := by
  obtain ⟨fa, fd, F, G, m, b⟩ := O
  intro pins s σ H Q h0 I h
  refine wpAny_Call_Name_kw (ld_glob I hg m ?_ hdb)
  refine PySem.W.callWith_K (h₀ := X.base) I.ok.mod.kin F.kp (thn (ha pos pins s σ H _ h0 I h) fun us s1 ⟨vs, H1, I1, r, q⟩ => ⟨I1.kIn, ?_⟩) he hpl
  exact run_fn G hr b .nil pass0 I1 r q
/-- 'c' + e, e behind a token -/
theorem pe_litAdd {c : Str} {j : Nat} {c0 pos : Pos} {r : R2} (ho : OpR X (binaryOp .Add) r) (hf : PET X f tf) : PE X (.BinOp (.Constant (.str c) j c0) .Add f pos) (tOp r (tC (.str c)) tf) := by
  refine ⟨fun pins s σ H Q I h => ?_⟩
  refine wpAny_BinOp (Calls.Constant_str ?_)
  exact thn (hf pins { s with toks := s.toks + 1 } σ H _ (by show 1 ≤ s.toks + 1; omega) (I.tok _) h) fun u s2 ⟨y, H2, I2, r2, q2⟩ => ho pins s2 σ H2 (.str c) y _ u Q I2 ⟨_, rfl⟩ r2 q2
end

/-! ### the law's own parts of a text -/
def flushC (last : List (List Nat)) (word : List Nat) : List (List Nat) := if word = [] then last else last ++ [word]
def scanC : List Nat → List (List Nat) → List Nat → List (List (List Nat))
  | [], last, word => [flushC last word]
  | c :: r, last, word => if c = 10 then flushC last word :: scanC r [] [] else if c = 32 then scanC r (flushC last word) [] else scanC r last (word ++ [c])
def keepC (l : List (List Nat)) : List (List Nat) := l.filter fun w => !w.isEmpty
theorem flush_keep (last : List (List Nat)) (word : List Nat) (t : List (List Nat)) : last ++ keepC (word :: t) = flushC last word ++ keepC t := by
  unfold flushC keepC
  cases word with
  | nil => simp
  | cons a b => simp
/-- the first part goes on with what is pending -/
def pend (last : List (List Nat)) (word : List Nat) : List (List Nat) → List (List (List Nat))
  | [] => []
  | h :: t => (last ++ keepC (appHead word (cutC 32 h))) :: t.map wordsC
theorem scan_pend : ∀ (l : List Nat) (last : List (List Nat)) (word : List Nat), scanC l last word = pend last word (cutC 10 l)
  | [], last, word => by
    show [flushC last word] = [last ++ keepC [word ++ []]]
    rw [List.append_nil, flush_keep]
    simp [keepC]
  | c :: r, last, word => by
    unfold scanC cutC
    by_cases h : c = 10
    · rw [if_pos h, if_pos h, scan_pend r [] []]
      show _ = (last ++ keepC [word ++ []]) :: (cutC 10 r).map wordsC
      rw [List.append_nil, flush_keep]
      congr 1
      · simp [keepC]
      · cases e : cutC 10 r with
        | nil => exact absurd e (cutC_ne 10 r)
        | cons a t =>
          show ([] ++ keepC (appHead [] (cutC 32 a))) :: t.map wordsC = wordsC a :: t.map wordsC
          rw [appHead_nil (cutC_ne 32 a)]
          rfl
    · rw [if_neg h, if_neg h]
      cases e : cutC 10 r with
      | nil => exact absurd e (cutC_ne 10 r)
      | cons a t =>
        show _ = (last ++ keepC (appHead word (cutC 32 (c :: a)))) :: t.map wordsC
        by_cases h2 : c = 32
        · rw [if_pos h2, scan_pend r, e]
          show (flushC last word ++ keepC (appHead [] (cutC 32 a))) :: _ = _
          rw [appHead_nil (cutC_ne 32 a)]
          have e2 : cutC 32 (c :: a) = [] :: cutC 32 a := by
            show (if c = 32 then _ else _) = _
            rw [if_pos h2]
          rw [e2]
          show _ = (last ++ keepC ((word ++ []) :: cutC 32 a)) :: _
          rw [List.append_nil, flush_keep]
        · rw [if_neg h2, scan_pend r, e]
          show (last ++ keepC (appHead (word ++ [c]) (cutC 32 a))) :: _ = _
          have e2 : cutC 32 (c :: a) = consHead c (cutC 32 a) := by
            show (if c = 32 then _ else _) = _
            rw [if_neg h2]
          rw [e2, appHead_cons]
theorem scan_parts (l : List Nat) : scanC l [] [] = partsC l := by
  rw [scan_pend]
  unfold partsC
  cases e : cutC 10 l with
  | nil => exact absurd e (cutC_ne 10 l)
  | cons a t =>
    show ([] ++ keepC (appHead [] (cutC 32 a))) :: t.map wordsC = wordsC a :: t.map wordsC
    rw [appHead_nil (cutC_ne 32 a)]
    rfl

/-! ### lines that are wrapped again -/
theorem cutC_app (s : Nat) : ∀ a b : List Nat, cutC s (a ++ s :: b) = cutC s a ++ cutC s b
  | [], b => by
    show (if s = s then [] :: cutC s b else _) = [[]] ++ cutC s b
    rw [if_pos rfl]
    rfl
  | c :: r, b => by
    have ih := cutC_app s r b
    rw [List.cons_append]
    show (if c = s then [] :: cutC s (r ++ s :: b) else consHead c (cutC s (r ++ s :: b))) = (if c = s then [] :: cutC s r else consHead c (cutC s r)) ++ cutC s b
    rw [ih]
    split
    · rfl
    · cases e : cutC s r with
      | nil => exact absurd e (cutC_ne s r)
      | cons h t => rfl
theorem map_map_inj2 : ∀ {l m : List (List Str)}, l.map (·.map TL.tl) = m.map (·.map TL.tl) → l = m
  | [], [], _ => rfl
  | [], _ :: _, h => by simp at h
  | _ :: _, [], h => by simp at h
  | x :: l, y :: m, h => by
    rw [List.map_cons, List.map_cons] at h
    injection h with h1 h2
    rw [TL.map_tl_inj h1, map_map_inj2 h2]
theorem parts_app (x y : Str) : partsS (x ++ Str.ofString "\n" ++ y) = partsS x ++ partsS y := by
  apply map_map_inj2
  rw [List.map_append, partsS_tl, partsS_tl, partsS_tl, TL.tl_append, TL.tl_append, tl_feed, List.append_assoc]
  unfold partsC
  show (cutC 10 (TL.tl x ++ 10 :: TL.tl y)).map wordsC = _
  rw [cutC_app, List.map_append]
theorem wrapped_app (x y : Str) (wide : Int) : wrappedS (x ++ Str.ofString "\n" ++ y) wide = wrappedS x wide ++ wrappedS y wide := by
  unfold wrappedS
  rw [parts_app, List.map_append, List.flatten_append]
/-- a word: signs, no blank and no line feed -/
def wordy (w : Str) : Prop := TL.tl w ≠ [] ∧ 32 ∉ TL.tl w ∧ 10 ∉ TL.tl w
theorem parts_wordy (x : Str) : ∀ ws ∈ partsS x, ∀ w ∈ ws, wordy w := fun ws hws w hw => by
  obtain ⟨p, hp, rfl⟩ := List.mem_map.mp hws
  obtain ⟨h1, h2⟩ := List.mem_filter.mp hw
  have m1 : TL.tl p ∈ cutC 10 (TL.tl x) := by rw [← split_cut tl_feed (by decide)]; exact List.mem_map.mpr ⟨p, hp, rfl⟩
  have m2 : TL.tl w ∈ cutC 32 (TL.tl p) := by rw [← split_cut tl_blank (by decide)]; exact List.mem_map.mpr ⟨w, h1, rfl⟩
  refine ⟨fun e => ?_, cutC_free 32 _ _ m2, fun h => cutC_free 10 _ _ m1 (cutC_sub 32 _ _ m2 _ h)⟩
  rw [keepW_tl, e] at h2
  cases h2
/-- a group of words that makes a line -/
structure Grp (wide : Int) (g : List Str) : Prop where
  ne : g ≠ []
  fits : ((joinS g).length : Int) ≤ wide ∨ g.length = 1
theorem go_groups (wide : Int) : ∀ (ws g0 : List Str), Grp wide g0 → ∃ gs : List (List Str), linesGo wide (joinS g0) ws = gs.map joinS ∧ gs.flatten = g0 ++ ws ∧ ∀ g ∈ gs, Grp wide g
  | [], g0, h => ⟨[g0], rfl, by simp, fun g hg => by rw [List.mem_singleton.mp hg]; exact h⟩
  | w :: r, g0, h => by
    unfold linesGo
    rw [← join_snoc h.ne]
    split
    · rename_i hf
      obtain ⟨gs, e1, e2, e3⟩ := go_groups wide r (g0 ++ [w]) ⟨by simp, .inl hf⟩
      exact ⟨gs, e1, by rw [e2]; simp, e3⟩
    · obtain ⟨gs, e1, e2, e3⟩ := go_groups wide r [w] ⟨by simp, .inr rfl⟩
      rw [join_one] at e1
      refine ⟨g0 :: gs, by rw [e1]; rfl, by rw [List.flatten_cons, e2]; rfl, fun g hg => ?_⟩
      rcases List.mem_cons.mp hg with rfl | hg
      · exact h
      · exact e3 g hg
theorem lines_groups (wide : Int) (ws : List Str) (h : ws ≠ []) : ∃ gs : List (List Str), linesS wide ws = gs.map joinS ∧ gs.flatten = ws ∧ ∀ g ∈ gs, Grp wide g := by
  cases ws with
  | nil => exact absurd rfl h
  | cons w r =>
    obtain ⟨gs, e1, e2, e3⟩ := go_groups wide r [w] ⟨by simp, .inr rfl⟩
    rw [join_one] at e1
    exact ⟨gs, e1, e2, e3⟩
theorem joinL_free {c : Nat} (hc : c ≠ 32) : ∀ l : List (List Nat), (∀ w ∈ l, c ∉ w) → c ∉ TL.joinL [32] l
  | [], _ => fun h => by cases h
  | [p], h => h p List.mem_cons_self
  | p :: q :: r, h => fun z => by
    rcases List.mem_append.mp (show c ∈ p ++ ([32] ++ TL.joinL [32] (q :: r)) from z) with z | z
    · exact h p List.mem_cons_self z
    · rcases List.mem_append.mp z with z | z
      · exact hc (List.mem_singleton.mp z)
      · exact joinL_free hc (q :: r) (fun w hw => h w (List.mem_cons_of_mem _ hw)) z
theorem join_free {g : List Str} (h : ∀ w ∈ g, wordy w) : 10 ∉ TL.tl (joinS g) := by
  unfold joinS
  rw [TL.join_eq, TL.tl_join, tl_blank]
  exact joinL_free (by decide) _ fun w hw => by
    obtain ⟨v, hv, rfl⟩ := List.mem_map.mp hw
    exact (h v hv).2.2
theorem blank_plain : (Str.ofString " ").cps.all (· < 256) = true := by decide +kernel
theorem feed_plain : (Str.ofString "\n").cps.all (· < 256) = true := by decide +kernel
theorem words_join {g : List Str} (hne : g ≠ []) (h : ∀ w ∈ g, wordy w) : wordsS (joinS g) = g := by
  unfold wordsS joinS
  rw [TL.split_join tl_blank blank_plain hne fun p hp => (h p hp).2.1]
  rw [List.filter_eq_self]
  intro w hw
  rw [keepW_tl]
  cases e : TL.tl w with
  | nil => exact absurd e (h w hw).1
  | cons a b => rfl
theorem words_none : wordsS (Str.ofString "") = [] := by
  apply TL.map_tl_inj
  rw [wordsS_tl, tl_none]
  rfl
theorem join_none : joinS [] = Str.ofString "" := by
  apply TL.ext_tl
  unfold joinS
  rw [TL.join_eq, TL.tl_join, tl_none]
  rfl
/-- what is known of each line of a wrapped text -/
structure LineOk (wide : Int) (l : Str) : Prop where
  free : 10 ∉ TL.tl l
  back : joinS (wordsS l) = l
  fits : ∀ w2, wide ≤ w2 → linesS w2 (wordsS l) = [l]
  short : (l.length : Int) ≤ wide ∨ (wordsS l).length ≤ 1
theorem go_all (w2 : Int) : ∀ (ws : List Str) (cur : Str), ((glue cur ws).length : Int) ≤ w2 → linesGo w2 cur ws = [glue cur ws]
  | [], _, _ => rfl
  | w :: r, cur, h => by
    have grow : ∀ (l : List Str) (c : Str), c.length ≤ (glue c l).length := by
      intro l
      induction l with
      | nil => intro c; exact Nat.le_refl _
      | cons v q ih =>
        intro c
        refine Nat.le_trans ?_ (ih (gapS c v))
        rw [len_gap]
        omega
    have h2 := grow r (gapS cur w)
    have h3 : glue cur (w :: r) = glue (gapS cur w) r := rfl
    unfold linesGo
    rw [h3] at h
    rw [if_pos (by omega)]
    exact go_all w2 r (gapS cur w) h
theorem grp_line {wide : Int} {g : List Str} (hg : Grp wide g) (h : ∀ w ∈ g, wordy w) : LineOk wide (joinS g) := by
  have e := words_join hg.ne h
  refine ⟨join_free h, by rw [e], fun w2 hw => ?_, ?_⟩
  · rw [e]
    cases g with
    | nil => exact absurd rfl hg.ne
    | cons w r =>
      show linesGo w2 w r = _
      rw [join_glue]
      rcases hg.fits with hf | hf
      · rw [join_glue] at hf
        exact go_all w2 r w (by omega)
      · have : r = [] := List.eq_nil_of_length_eq_zero (by simpa using hf)
        subst this
        rfl
  · rw [e]
    rcases hg.fits with hf | hf
    · exact .inl hf
    · exact .inr (by omega)
theorem none_line (wide : Int) (h0 : 0 ≤ wide) : LineOk wide (Str.ofString "") := by
  refine ⟨by rw [tl_none]; simp, by rw [words_none]; exact join_none, fun w2 _ => by rw [words_none]; rfl, .inr (by rw [words_none]; simp)⟩
theorem lines_ok {wide : Int} (h0 : 0 ≤ wide) {ws : List Str} (h : ∀ w ∈ ws, wordy w) : ∀ l ∈ linesS wide ws, LineOk wide l := by
  by_cases hne : ws = []
  · subst hne
    intro l hl
    rw [List.mem_singleton.mp (show l ∈ [Str.ofString ""] from hl)]
    exact none_line wide h0
  · obtain ⟨gs, e1, e2, e3⟩ := lines_groups wide ws hne
    intro l hl
    rw [e1] at hl
    obtain ⟨g, hg, rfl⟩ := List.mem_map.mp hl
    refine grp_line (e3 g hg) fun w hw => h w ?_
    rw [← e2]
    exact List.mem_flatten.mpr ⟨g, hg, hw⟩
theorem wrapped_ok {wide : Int} (h0 : 0 ≤ wide) (x : Str) : ∀ l ∈ wrappedS x wide, LineOk wide l := fun l hl => by
  obtain ⟨ls, h1, h2⟩ := List.mem_flatten.mp hl
  obtain ⟨ws, h3, rfl⟩ := List.mem_map.mp h1
  exact lines_ok h0 (parts_wordy x ws h3) l h2
theorem lines_words {wide : Int} {ws : List Str} (h : ∀ w ∈ ws, wordy w) : ((linesS wide ws).map wordsS).flatten = ws := by
  by_cases hne : ws = []
  · subst hne
    show ([Str.ofString ""].map wordsS).flatten = []
    rw [List.map_singleton, words_none]
    rfl
  · obtain ⟨gs, e1, e2, e3⟩ := lines_groups wide ws hne
    rw [e1, List.map_map]
    have e4 : gs.map (wordsS ∘ joinS) = gs := by
      conv => rhs; rw [← List.map_id gs]
      apply List.map_congr_left
      intro g hg
      exact words_join (e3 g hg).ne fun w hw => h w (by rw [← e2]; exact List.mem_flatten.mpr ⟨g, hg, hw⟩)
    rw [e4, e2]
theorem wrapped_words (x : Str) (wide : Int) : ((wrappedS x wide).map wordsS).flatten = (partsS x).flatten := by
  have key : ∀ l : List (List Str), (∀ ws ∈ l, ∀ w ∈ ws, wordy w) → (((l.map (linesS wide)).flatten).map wordsS).flatten = l.flatten := by
    intro l
    induction l with
    | nil => intro _; rfl
    | cons a r ih =>
      intro h
      rw [List.map_cons, List.flatten_cons, List.map_append, List.flatten_append, lines_words (h a List.mem_cons_self), ih fun ws hw => h ws (List.mem_cons_of_mem _ hw), List.flatten_cons]
  exact key _ (parts_wordy x)
theorem wrapped_ne (x : Str) (wide : Int) : wrappedS x wide ≠ [] := fun z => by
  cases e : partsS x with
  | nil => exact parts_ne x e
  | cons ws r =>
    unfold wrappedS at z
    rw [e, List.map_cons, List.flatten_cons] at z
    have h := (List.append_eq_nil_iff.mp z).1
    cases ws with
    | nil => cases h
    | cons w q =>
      have h2 : tailLines wide (w :: q) = [] := h
      rw [tail_cons] at h2
      cases h2
def againS (ls : List Str) : Str := Txt.join (Str.ofString "\n") ls
theorem parts_again {x : Str} {wide : Int} (h0 : 0 ≤ wide) : partsS (againS (wrappedS x wide)) = (wrappedS x wide).map wordsS := by
  unfold partsS againS
  rw [TL.split_join tl_feed feed_plain (wrapped_ne x wide) fun p hp => (wrapped_ok h0 x p hp).free]
theorem wrapped_again {x : Str} {wide w2 : Int} (h0 : 0 ≤ wide) (h : wide ≤ w2) : wrappedS (againS (wrappedS x wide)) w2 = wrappedS x wide := by
  rw [wrappedS.eq_1 (againS _), parts_again h0, List.map_map]
  have key : ∀ l : List Str, (∀ y ∈ l, LineOk wide y) → (l.map (linesS w2 ∘ wordsS)).flatten = l := by
    intro l
    induction l with
    | nil => intro _; rfl
    | cons a r ih =>
      intro hl
      rw [List.map_cons, List.flatten_cons, ih fun y hy => hl y (List.mem_cons_of_mem _ hy)]
      show linesS w2 (wordsS a) ++ r = _
      rw [(hl a List.mem_cons_self).fits w2 h]
      rfl
  exact key _ (wrapped_ok h0 x)
theorem wish_again {x : Str} {wide : Int} (h0 : 0 ≤ wide) : wishN (againS (wrappedS x wide)) = maxN ((wrappedS x wide).map (·.length)) := by
  unfold wishN
  rw [parts_again h0, List.map_map]
  congr 1
  apply List.map_congr_left
  intro l hl
  show (joinS (wordsS l)).length = l.length
  rw [(wrapped_ok h0 x l hl).back]
theorem long_again {x : Str} {wide : Int} (h0 : 0 ≤ wide) : longN (againS (wrappedS x wide)) = longN x := by
  unfold longN
  rw [parts_again h0, wrapped_words]
/-! ### how long it is -/
def tot (ws : List Str) : Nat := (ws.map fun w => w.length + 1).sum
theorem tot_go (wide : Int) : ∀ (ws : List Str) (cur : Str), tot (linesGo wide cur ws) = cur.length + 1 + tot ws
  | [], cur => by simp [linesGo, tot]
  | w :: r, cur => by
    unfold linesGo
    have e : tot (w :: r) = w.length + 1 + tot r := by simp [tot]
    split
    · rw [tot_go wide r (gapS cur w), len_gap, e]
      omega
    · have e2 : tot (cur :: linesGo wide w r) = cur.length + 1 + tot (linesGo wide w r) := by simp [tot]
      rw [e2, tot_go wide r w, e]
theorem cut_tot (s : Nat) : ∀ l : List Nat, ((cutC s l).map fun w => w.length + 1).sum = l.length + 1
  | [] => by simp [cutC]
  | c :: r => by
    have ih := cut_tot s r
    unfold cutC
    split
    · simp [ih]
      omega
    · cases e : cutC s r with
      | nil => exact absurd e (cutC_ne s r)
      | cons a t =>
        rw [e] at ih
        simp [consHead] at ih ⊢
        omega
theorem split_tot {x y : Str} {s : Nat} (ey : TL.tl y = [s]) (hk : s < 256) : tot (Txt.split x y) = x.length + 1 := by
  have h := cut_tot s (TL.tl x)
  rw [← split_cut ey hk, List.map_map, ← TL.len_tl] at h
  rw [← h]
  unfold tot
  congr 1
theorem tot_filter (f : Str → Bool) : ∀ l : List Str, tot (l.filter f) ≤ tot l
  | [] => Nat.le_refl _
  | a :: r => by
    have ih := tot_filter f r
    have e : tot (a :: r) = a.length + 1 + tot r := by simp [tot]
    rw [List.filter_cons, e]
    split
    · have e2 : tot (a :: r.filter f) = a.length + 1 + tot (r.filter f) := by simp [tot]
      omega
    · omega
theorem tot_lines (wide : Int) (p : Str) : tot (linesS wide (wordsS p)) ≤ p.length + 1 := by
  have h1 : tot (wordsS p) ≤ p.length + 1 := by
    rw [← split_tot (x := p) tl_blank (by decide)]
    exact tot_filter _ _
  cases e : wordsS p with
  | nil =>
    show tot [Str.ofString ""] ≤ _
    have : tot [Str.ofString ""] = 1 := by decide +kernel
    omega
  | cons w r =>
    show tot (linesGo wide w r) ≤ _
    rw [tot_go]
    rw [e] at h1
    have e2 : tot (w :: r) = w.length + 1 + tot r := by simp [tot]
    omega
theorem tot_app (a b : List Str) : tot (a ++ b) = tot a + tot b := by
  unfold tot
  rw [List.map_append, List.sum_append]
theorem tot_wrapped (x : Str) (wide : Int) : tot (wrappedS x wide) ≤ x.length + 1 := by
  have key : ∀ l : List Str, tot ((l.map (fun p => linesS wide (wordsS p))).flatten) ≤ tot l := by
    intro l
    induction l with
    | nil => exact Nat.le_refl _
    | cons a r ih =>
      rw [List.map_cons, List.flatten_cons, tot_app]
      have h1 := tot_lines wide a
      have e : tot (a :: r) = a.length + 1 + tot r := by simp [tot]
      omega
  have h := key (Txt.split x (Str.ofString "\n"))
  rw [split_tot tl_feed (by decide)] at h
  unfold wrappedS partsS
  rw [List.map_map]
  exact h
theorem joinL_tot {c : Nat} : ∀ l : List (List Nat), (TL.joinL [c] l).length ≤ (l.map fun w => w.length + 1).sum - 1
  | [] => Nat.zero_le _
  | [p] => by simp [TL.joinL]
  | p :: q :: r => by
    have ih := joinL_tot (c := c) (q :: r)
    show (p ++ ([c] ++ TL.joinL [c] (q :: r))).length ≤ _
    simp only [List.length_append, List.length_cons, List.length_nil, List.map_cons, List.sum_cons] at ih ⊢
    omega
theorem again_len (x : Str) (wide : Int) : (againS (wrappedS x wide)).length ≤ x.length := by
  unfold againS
  rw [TL.join_eq, TL.len_tl, TL.tl_join, tl_feed]
  refine Nat.le_trans (joinL_tot _) ?_
  have h := tot_wrapped x wide
  unfold tot at h
  rw [List.map_map]
  have e : (wrappedS x wide).map ((fun w : List Nat => w.length + 1) ∘ TL.tl) = (wrappedS x wide).map fun w => w.length + 1 := by
    apply List.map_congr_left
    intro w _
    show (TL.tl w).length + 1 = w.length + 1
    rw [← TL.len_tl]
  rw [e]
  omega
theorem wrapped_few (x : Str) (wide : Int) : (wrappedS x wide).length ≤ x.length + 1 ∧ ∀ l ∈ wrappedS x wide, l.length ≤ x.length := by
  have h := tot_wrapped x wide
  have key : ∀ l : List Str, l.length ≤ tot l ∧ ∀ w ∈ l, w.length + 1 ≤ tot l := by
    intro l
    induction l with
    | nil => exact ⟨Nat.zero_le _, fun w hw => by cases hw⟩
    | cons a r ih =>
      have e : tot (a :: r) = a.length + 1 + tot r := by simp [tot]
      refine ⟨by rw [List.length_cons]; omega, fun w hw => ?_⟩
      rcases List.mem_cons.mp hw with rfl | hw
      · omega
      · have := ih.2 w hw
        omega
  obtain ⟨h1, h2⟩ := key (wrappedS x wide)
  exact ⟨by omega, fun l hl => by have := h2 l hl; omega⟩

/-! ### further blanks -/
def dblC : List Nat → List Nat
  | [] => []
  | c :: r => if c = 32 then 32 :: 32 :: dblC r else c :: dblC r
theorem flush_twice (last : List (List Nat)) : flushC last [] = last := by
  unfold flushC
  rw [if_pos rfl]
theorem scan_cons (c : Nat) (r : List Nat) (last : List (List Nat)) (word : List Nat) : scanC (c :: r) last word = if c = 10 then flushC last word :: scanC r [] [] else if c = 32 then scanC r (flushC last word) [] else scanC r last (word ++ [c]) := rfl
theorem scan_dbl : ∀ (l : List Nat) (last : List (List Nat)) (word : List Nat), scanC (dblC l) last word = scanC l last word
  | [], _, _ => rfl
  | c :: r, last, word => by
    unfold dblC
    by_cases h : c = 32
    · subst h
      have e1 : ∀ (l : List Nat) (la : List (List Nat)) (wo : List Nat), scanC (32 :: l) la wo = scanC l (flushC la wo) [] := by
        intro l la wo
        rw [scan_cons, if_neg (by decide), if_pos rfl]
      rw [if_pos rfl, e1, e1, e1, flush_twice, scan_dbl r]
    · rw [if_neg h, scan_cons, scan_cons, scan_dbl r, scan_dbl r, scan_dbl r]
theorem scan_tail : ∀ (l : List Nat) (last : List (List Nat)) (word : List Nat), scanC (l ++ [32]) last word = scanC l last word
  | [], last, word => by
    show (if (32 : Nat) = 10 then _ else if (32 : Nat) = 32 then scanC [] (flushC last word) [] else _) = [flushC last word]
    rw [if_neg (by decide), if_pos rfl]
    show [flushC (flushC last word) []] = _
    rw [flush_twice]
  | c :: r, last, word => by
    rw [List.cons_append, scan_cons, scan_cons, scan_tail r, scan_tail r, scan_tail r]
theorem scan_head (l : List Nat) : scanC (32 :: l) [] [] = scanC l [] [] := by
  rw [scan_cons, if_neg (by decide), if_pos rfl, flush_twice]
theorem repl_dbl : ∀ l : List Nat, PySem.StrLaws.replL [32] [32, 32] l = dblC l
  | [] => by rw [PySem.StrLaws.replL_nil]; rfl
  | c :: r => by
    by_cases h : c = 32
    · subst h
      rw [PySem.StrLaws.replL_hit (by decide) rfl]
      show [32, 32] ++ PySem.StrLaws.replL [32] [32, 32] r = _
      rw [repl_dbl r]
      show _ = if (32 : Nat) = 32 then 32 :: 32 :: dblC r else _
      rw [if_pos rfl]
      rfl
    · rw [PySem.StrLaws.replL_miss (by simp [h]), repl_dbl r]
      show _ = if c = 32 then _ else c :: dblC r
      rw [if_neg h]
theorem tl_two : TL.tl (Str.ofString "  ") = [32, 32] := by decide +kernel
theorem tl_repl (x : Str) : TL.tl (Txt.replace x (Str.ofString " ") (Str.ofString "  ")) = dblC (TL.tl x) := by
  have h := PySem.StrLaws.replace_list (x := x) (y := Str.ofString " ") (z := Str.ofString "  ") (by decide +kernel)
  rw [show (Str.ofString " ").cps.toList = [32] from tl_blank, show (Str.ofString "  ").cps.toList = [32, 32] from tl_two, repl_dbl] at h
  exact h
theorem dbl_len : ∀ l : List Nat, (dblC l).length ≤ 2 * l.length
  | [] => Nat.le_refl _
  | c :: r => by
    have ih := dbl_len r
    unfold dblC
    split
    · simp
      omega
    · simp
      omega
theorem parts_tail (x : Str) : partsS (Txt.replace x (Str.ofString " ") (Str.ofString "  ") ++ Str.ofString " ") = partsS x := by
  apply map_map_inj2
  rw [partsS_tl, partsS_tl, ← scan_parts, ← scan_parts, TL.tl_append, tl_blank, scan_tail, tl_repl, scan_dbl]
theorem parts_wide (x : Str) : partsS (Str.ofString " " ++ Txt.replace x (Str.ofString " ") (Str.ofString "  ") ++ Str.ofString "  ") = partsS x := by
  apply map_map_inj2
  rw [partsS_tl, partsS_tl, ← scan_parts, ← scan_parts, TL.tl_append, TL.tl_append, tl_blank, tl_two]
  show scanC (32 :: (TL.tl (Txt.replace x (Str.ofString " ") (Str.ofString "  ")) ++ ([32] ++ [32]))) [] [] = _
  rw [scan_head, ← List.append_assoc, scan_tail, scan_tail, tl_repl, scan_dbl]

/-! ### the cells that a law walks -/
theorem cells_it {K : PySem.W.Frag} {σ : L2.St} {H : Hp} {a : Addr} {ns : List Int} {n : Int} {R : It → Hp → Prop} (h0 : σ[0]? = some (some (.ref a))) (hS : SqL K H a (ns.map V.int)) (hl : ns.length ≤ 63)
    (k : ∀ (L : Addr) (zs : List Int) (HB : Hp), HB L = some (.lst (zs.map V.int)) → Same H HB → R (Itl K L) HB) :
    iList K (tOp rCat (tLst (tCons (tCall (spCellAt K) [] E0 (tCons (tVar 0) (tCons (tC (.int 0)) tNil))) tNil)) (tSl (rSlL K) (tVar 0) (tPart (tC (.int 1))) (tPart (tC (.int n))))) σ H R := by
  refine ⟨_, h0, a, ns, 0, rfl, hS, fun z0 => ⟨(by show 1 ≤ sizeLine; decide), fun p1 n1 => ?_⟩⟩
  obtain ⟨ms, hms, ecut⟩ := cut_ints ns (some 1) (some n)
  refine ⟨_, h0, 1, rfl, n, rfl, a, ns.map V.int, rfl, (same_upd n1).seq hS, fun p2 n2 => ?_⟩
  have g1 : (upd (upd H p1 (.lst [.int z0])) p2 (.lst (cutV (ns.map V.int) (some 1) (some n)))) p1 = some (.lst [.int z0]) := by
    rw [upd_ne (ne_of_none upd_same n2)]
    exact upd_same
  refine ⟨p1, p2, _, _, rfl, rfl, g1, upd_same, ?_, fun L nL => ?_⟩
  · rw [ecut, List.length_map]
    show 1 + ms.length ≤ sizeLine
    exact Nat.le_trans (by omega : 1 + ms.length ≤ 64) (by decide)
  have sB := (same_upd (o := .lst [.int z0]) n1).trans ((same_upd n2).trans (same_upd (o := .lst ([V.int z0] ++ cutV (ns.map V.int) (some 1) (some n))) nL))
  refine ⟨L, rfl, ⟨_, .of upd_same⟩, k L (z0 :: ms) _ ?_ sB⟩
  rw [upd_same, ecut]
  rfl
/-- what a for asks of the thing that it walks -/
def forR (g : TG) (tb : TS) (D : Ends) (σ : L2.St) (J : It) (H1 : Hp) : Prop :=
  ∃ W : Nat → Nat → L2.St → Hp → Prop, (∃ m, W 0 m σ H1) ∧ ∀ i m σ H, W i m σ H → (J.stop i H ∧ D.nx σ H) ∨
    (J.go i H ∧ ∃ N : L2.St → Hp → Prop, (∀ σ' H', N σ' H' → ∃ m', m' < m ∧ W (i + 1) m' σ' H') ∧ ∀ x H', J.yld i H x H' → g x σ H' fun σ2 H2 => tb { D with nx := N, ct := N, bk := D.nx } σ2 H2)
theorem cells_for {K : PySem.W.Frag} {σ : L2.St} {H : Hp} {a : Addr} {ns : List Int} {n : Int} {g : TG} {tb u : TS} {D : Ends} (h0 : σ[0]? = some (some (.ref a))) (hS : SqL K H a (ns.map V.int)) (hl : ns.length ≤ 63)
    (k : ∀ (L : Addr) (zs : List Int) (HB : Hp), HB L = some (.lst (zs.map V.int)) → Same H HB → forR g tb { D with nx := u D } σ (Itl K L) HB) :
    tSeq (tFor (iList K (tOp rCat (tLst (tCons (tCall (spCellAt K) [] E0 (tCons (tVar 0) (tCons (tC (.int 0)) tNil))) tNil)) (tSl (rSlL K) (tVar 0) (tPart (tC (.int 1))) (tPart (tC (.int n)))))) g tb) u D σ H :=
  cells_it (R := forR g tb { D with nx := u D } σ) h0 hS hl k

/-! ### counted sign by sign -/
def runL : List Nat → Nat → Nat
  | [], n => n
  | c :: r, n => if c = 10 ∨ c = 32 then max n (runL r 0) else runL r (n + 1)
theorem runL_ge : ∀ (l : List Nat) (n : Nat), n ≤ runL l n
  | [], _ => Nat.le_refl _
  | c :: r, n => by
    unfold runL
    split
    · exact Nat.le_max_left _ _
    · exact Nat.le_trans (Nat.le_succ n) (runL_ge r (n + 1))
theorem flush_app (last : List (List Nat)) (word : List Nat) : flushC last word = last ++ flushC [] word := by
  unfold flushC
  split <;> simp
theorem scan_last : ∀ (l : List Nat) (last : List (List Nat)) (word : List Nat), (scanC l last word).flatten = last ++ (scanC l [] word).flatten
  | [], last, word => by
    show (flushC last word) ++ [] = last ++ (flushC [] word ++ [])
    rw [flush_app, List.append_assoc]
  | c :: r, last, word => by
    rw [scan_cons, scan_cons]
    split
    · rw [List.flatten_cons, List.flatten_cons, flush_app, List.append_assoc]
    · split
      · rw [scan_last r (flushC last word), scan_last r (flushC [] word), flush_app last, List.append_assoc]
      · exact scan_last r last (word ++ [c])
theorem run_scan : ∀ (l : List Nat) (word : List Nat), runL l word.length = maxN ((scanC l [] word).flatten.map List.length)
  | [], word => by
    show word.length = maxN ((flushC [] word ++ []).map List.length)
    unfold flushC
    split
    · rename_i h
      rw [h]
      rfl
    · show _ = max word.length 0
      omega
  | c :: r, word => by
    rw [scan_cons]
    unfold runL
    have key : max word.length (runL r 0) = maxN ((flushC [] word ++ (scanC r [] []).flatten).map List.length) := by
      have h0 := run_scan r []
      rw [List.map_append, maxN_app, ← h0]
      congr 1
      unfold flushC
      split
      · rename_i h
        rw [h]
        rfl
      · show _ = max word.length 0
        omega
    by_cases h : c = 10
    · rw [if_pos (.inl h), if_pos h, List.flatten_cons]
      exact key
    · by_cases h2 : c = 32
      · rw [if_pos (.inr h2), if_neg h, if_pos h2, scan_last]
        exact key
      · rw [if_neg (by omega), if_neg h, if_neg h2, ← run_scan r (word ++ [c])]
        simp
theorem flat_map_tl : ∀ l : List (List Str), (l.map (·.map TL.tl)).flatten = l.flatten.map TL.tl
  | [] => rfl
  | a :: r => by
    rw [List.map_cons, List.flatten_cons, flat_map_tl r, List.flatten_cons, List.map_append]
theorem long_run (x : Str) : longN x = runL (TL.tl x) 0 := by
  have h := run_scan (TL.tl x) []
  rw [scan_parts, ← partsS_tl, flat_map_tl, List.map_map] at h
  rw [show (0 : Nat) = ([] : List Nat).length from rfl, h]
  unfold longN
  congr 1
/-- the wish: letters, words, whether a word may begin -/
def wishL : List Nat → Nat → Nat → Bool → Nat
  | [], n, k, _ => n + (k - 1)
  | c :: r, n, k, b => if c = 10 then max (n + (k - 1)) (wishL r 0 0 true) else if c = 32 then wishL r n k true else wishL r (n + 1) (if b = true then k + 1 else k) false
theorem wishL_ge : ∀ (l : List Nat) (n k : Nat) (b : Bool), n + (k - 1) ≤ wishL l n k b
  | [], _, _, _ => Nat.le_refl _
  | c :: r, n, k, b => by
    unfold wishL
    split
    · exact Nat.le_max_left _ _
    · split
      · exact wishL_ge r n k true
      · have h := wishL_ge r (n + 1) (if b = true then k + 1 else k) false
        refine Nat.le_trans ?_ h
        split <;> omega
def lens (ws : List (List Nat)) : Nat := (ws.map List.length).sum
theorem join_lens : ∀ ws : List (List Nat), (TL.joinL [32] ws).length = lens ws + (ws.length - 1)
  | [] => rfl
  | [p] => by simp [TL.joinL, lens]
  | p :: q :: r => by
    have ih := join_lens (q :: r)
    show (p ++ ([32] ++ TL.joinL [32] (q :: r))).length = _
    simp only [lens, List.length_append, List.length_cons, List.length_nil, List.map_cons, List.sum_cons] at ih ⊢
    omega
theorem lens_flush (last : List (List Nat)) (word : List Nat) : lens (flushC last word) = lens last + word.length ∧ (flushC last word).length = last.length + (if word = [] then 0 else 1) := by
  unfold flushC lens
  split
  · rename_i h
    rw [h]
    exact ⟨rfl, rfl⟩
  · simp
theorem wish_scan : ∀ (l : List Nat) (last : List (List Nat)) (word : List Nat), wishL l (lens last + word.length) (last.length + (if word = [] then 0 else 1)) (decide (word = [])) = maxN ((scanC l last word).map fun ws => (TL.joinL [32] ws).length)
  | [], last, word => by
    show _ = max (TL.joinL [32] (flushC last word)).length 0
    rw [join_lens, (lens_flush last word).1, (lens_flush last word).2]
    show lens last + word.length + _ = _
    omega
  | c :: r, last, word => by
    rw [scan_cons]
    unfold wishL
    by_cases h : c = 10
    · rw [if_pos h, if_pos h, List.map_cons]
      show _ = max (TL.joinL [32] (flushC last word)).length _
      rw [join_lens, (lens_flush last word).1, (lens_flush last word).2]
      congr 1
      exact wish_scan r [] []
    · rw [if_neg h, if_neg h]
      by_cases h2 : c = 32
      · rw [if_pos h2, if_pos h2, ← wish_scan r (flushC last word) [], (lens_flush last word).1, (lens_flush last word).2]
        rfl
      · rw [if_neg h2, if_neg h2, ← wish_scan r last (word ++ [c])]
        have e1 : (word ++ [c]).length = word.length + 1 := by simp
        have e2 : ¬ word ++ [c] = [] := by simp
        rw [e1, if_neg e2, decide_eq_false e2]
        by_cases hw : word = []
        · rw [if_pos hw, decide_eq_true hw, if_pos rfl]
          rfl
        · rw [if_neg hw, decide_eq_false hw, if_neg Bool.false_ne_true]
          rfl
theorem wish_run (x : Str) : wishN x = wishL (TL.tl x) 0 0 true := by
  have h := wish_scan (TL.tl x) [] []
  rw [scan_parts, ← partsS_tl, List.map_map] at h
  refine Eq.trans ?_ h.symm
  unfold wishN
  congr 1
  apply List.map_congr_left
  intro ws _
  show (joinS ws).length = (TL.joinL [32] (ws.map TL.tl)).length
  unfold joinS
  rw [TL.join_eq, TL.len_tl, TL.tl_join, tl_blank]
theorem max_cast (a b : Nat) : (if (b : Int) > (a : Int) then (b : Int) else (a : Int)) = ((max a b : Nat) : Int) := by
  split <;> omega
theorem tl_seps : TL.tl (Str.ofString " \n") = [32, 10] := by decide +kernel
theorem in_seps (c : Nat) : decide (c ∈ (Str.ofString " \n").cps.toList) = decide (c = 10 ∨ c = 32) := by
  have h : c ∈ (Str.ofString " \n").cps.toList ↔ (c = 10 ∨ c = 32) := by
    show c ∈ TL.tl (Str.ofString " \n") ↔ _
    rw [tl_seps]
    simp
    omega
  exact decide_eq_decide.mpr h
theorem sign_eq {c d : Nat} {z : Str} (hz : TL.tl z = [d]) : decide (V.str ⟨#[c]⟩ = V.str z) = decide (c = d) := by
  apply decide_eq_decide.mpr
  constructor
  · intro h
    have e : TL.tl (⟨#[c]⟩ : Str) = TL.tl z := by rw [V.str.inj h]
    rw [hz] at e
    exact (List.cons.inj e).1
  · intro h
    rw [h]
    exact congrArg V.str (TL.ext_tl hz.symm)
theorem drop_sign {l : List Nat} {i c : Nat} (h : l[i]? = some c) : l.drop i = c :: l.drop (i + 1) := by
  obtain ⟨h1, h2⟩ := List.getElem?_eq_some_iff.mp h
  rw [List.drop_eq_getElem_cons h1, h2]
def spLongC : Sp := fun vs H Q _ => ∃ x : Str, vs = [.str x] ∧ Q (.int (longN x : Int)) H
def spWishC : Sp := fun vs H Q _ => ∃ x : Str, vs = [.str x] ∧ Q (.int (wishN x : Int)) H
def spSame : Sp := fun vs H Q _ => ∃ (a : Int), vs = [.int a, .int a] ∧ Q (.bl true) H
def spRight : Sp := fun vs H Q _ => ∃ x : Str, vs = [.str x] ∧ x.length ≤ 2000 ∧ ∀ H', Same H H' → Q (.bl true) H'
def spLaw (K : PySem.W.Frag) : Sp := fun vs H Q _ => ∃ (a : Addr) (ns : List Int), vs = [.ref a] ∧ SqL K H a (ns.map V.int) ∧ ns.length ≤ 63 ∧ ∀ H', Q (.bl true) H'
section
variable {P : Program} {w : World} {K : PySem.W.Frag} {mg : Str → Option Value} {base : Heap}
theorem ok_longC (T : Txt K mg) : Ok P w K mg base CX0 "_law_longest" s_longest 1 ["_law_text_here"] spLongC := by
  refine T.h_longest.ok sc_longest (fun vs H Q E h => ?_) (fun f cdv A outer s H vs Q E hr h => ?_)
  · obtain ⟨x, rfl, _⟩ := h; rfl
  obtain ⟨x, rfl, q⟩ := h
  refine ⟨_, (pss_cons (ps_set (i := 1) sc_longest.nd rfl (by first | exact Or.inl rfl | exact Or.inr rfl) pe_int)
      (pss_cons (ps_set (i := 2) sc_longest.nd rfl (by first | exact Or.inl rfl | exact Or.inr rfl) pe_int)
      (pss_cons (ps_for PassesOwn.never rfl (pi_str (pv 0)) (pg_name (i := 3) sc_longest.nd rfl (by first | exact Or.inl rfl | exact Or.inr rfl))
      (pss_cons (ps_set (i := 1) sc_longest.nd rfl (by first | exact Or.inl rfl | exact Or.inr rfl) (pe_op op_add (pv 1) pe_int))
      (pss_cons (ps_if (pt_cmpR op_in_sign (pv 3) pe_str (by rfl))
      (pss_one (ps_set (i := 1) sc_longest.nd rfl (by first | exact Or.inl rfl | exact Or.inr rfl) pe_int))
      pss_nil)
      (pss_one (ps_set (i := 2) sc_longest.nd rfl (by first | exact Or.inl rfl | exact Or.inr rfl) (pe_callB (call_max2 rfl) (by rfl) T.m_max (by decide +kernel) (pa_cons (pv 2) (pa_cons (pv 1) pa_nil))))))))
      (pss_one (ps_ret (pv 2)))))), ?_⟩
  refine ⟨_, rfl, x, rfl, for_str (x := x) (fun i σ H' => ∃ (run most : Nat) (v3 : Option V), σ = [some (.str x), some (.int (run : Int)), some (.int (most : Int)), v3] ∧ H' = H ∧ run ≤ most ∧ max most (runL ((TL.tl x).drop i) run) = longN x)
    ⟨0, 0, none, rfl, rfl, Nat.le_refl _, by rw [long_run]; exact Nat.zero_max _⟩ ?_ ?_⟩
  · rintro i c σ H' hc ⟨run, most, v3, rfl, rfl, hle, inv⟩
    rw [drop_sign hc] at inv
    refine ⟨_, rfl, _, _, rfl, rfl, ?_⟩
    refine ⟨_, rfl, c, _, rfl, rfl, _, rfl, ?_⟩
    rw [in_seps]
    refine ite2 (fun e => ?_) (fun e => ?_)
    · have e1 : c = 10 ∨ c = 32 := of_decide_eq_true e
      refine ⟨_, rfl, _, rfl, _, _, rfl, ?_⟩
      refine ⟨0, most, some (.str ⟨#[c]⟩), ?_, rfl, Nat.zero_le _, ?_⟩
      · have h := max_cast most 0
        rw [Nat.max_eq_left (Nat.zero_le _)] at h
        rw [← h]
        rfl
      · rw [← inv]
        show _ = max most (if c = 10 ∨ c = 32 then max run (runL ((TL.tl x).drop (i + 1)) 0) else _)
        rw [if_pos e1]
        omega
    · have e1 : ¬ (c = 10 ∨ c = 32) := fun z => e (decide_eq_true z)
      refine ⟨_, rfl, _, rfl, _, _, rfl, ?_⟩
      refine ⟨run + 1, max most (run + 1), some (.str ⟨#[c]⟩), ?_, rfl, Nat.le_max_right _ _, ?_⟩
      · rw [← max_cast most (run + 1)]
        rfl
      · rw [← inv]
        show _ = max most (if c = 10 ∨ c = 32 then _ else runL ((TL.tl x).drop (i + 1)) (run + 1))
        rw [if_neg e1]
        have := runL_ge ((TL.tl x).drop (i + 1)) (run + 1)
        omega
  · rintro σ H' ⟨run, most, v3, rfl, rfl, hle, inv⟩
    rw [List.drop_length] at inv
    have e : most = longN x := by
      have : runL [] run = run := rfl
      omega
    refine ⟨_, rfl, ?_⟩
    rw [e]
    exact q
theorem ok_wishC (T : Txt K mg) : Ok P w K mg base CX0 "_law_wish" s_wish 1 ["_law_text_here"] spWishC := by
  refine T.h_wish.ok sc_wish (fun vs H Q E h => ?_) (fun f cdv A outer s H vs Q E hr h => ?_)
  · obtain ⟨x, rfl, _⟩ := h; rfl
  obtain ⟨x, rfl, q⟩ := h
  refine ⟨_, (pss_cons (ps_set (i := 1) sc_wish.nd rfl (by first | exact Or.inl rfl | exact Or.inr rfl) pe_int)
      (pss_cons (ps_set (i := 2) sc_wish.nd rfl (by first | exact Or.inl rfl | exact Or.inr rfl) pe_int)
      (pss_cons (ps_set (i := 3) sc_wish.nd rfl (by first | exact Or.inl rfl | exact Or.inr rfl) pe_int)
      (pss_cons (ps_set (i := 4) sc_wish.nd rfl (by first | exact Or.inl rfl | exact Or.inr rfl) pe_str)
      (pss_cons (ps_for PassesOwn.never rfl (pi_str (pv 0)) (pg_name (i := 5) sc_wish.nd rfl (by first | exact Or.inl rfl | exact Or.inr rfl))
      (pss_cons (ps_if (pt_cmpR op_eq (pv 5) pe_str (nomark _))
      (pss_cons (ps_set (i := 2) sc_wish.nd rfl (by first | exact Or.inl rfl | exact Or.inr rfl) pe_int)
      (pss_one (ps_set (i := 3) sc_wish.nd rfl (by first | exact Or.inl rfl | exact Or.inr rfl) pe_int)))
      (pss_one (ps_if (pt_cmpR op_ne (pv 5) pe_str (nomark _))
      (pss_cons (ps_set (i := 2) sc_wish.nd rfl (by first | exact Or.inl rfl | exact Or.inr rfl) (pe_op op_add (pv 2) pe_int))
      (pss_one (ps_set (i := 3) sc_wish.nd rfl (by first | exact Or.inl rfl | exact Or.inr rfl) (pe_op op_add (pv 3) (pe_callTy call_int1 (by rfl) T.m_int (by decide +kernel) (pa_cons (pe_cmpR op_in_sign (pv 4) pe_str (by rfl)) pa_nil))))))
      pss_nil)))
      (pss_cons (ps_set (i := 1) sc_wish.nd rfl (by first | exact Or.inl rfl | exact Or.inr rfl) (pe_callB (call_max2 rfl) (by rfl) T.m_max (by decide +kernel) (pa_cons (pv 1) (pa_cons (pe_op op_add (pv 2) (pe_callB (call_max2 rfl) (by rfl) T.m_max (by decide +kernel) (pa_cons pe_int (pa_cons (pe_op op_sub (pv 3) pe_int) pa_nil)))) pa_nil))))
      (pss_one (ps_set (i := 4) sc_wish.nd rfl (by first | exact Or.inl rfl | exact Or.inr rfl) (pv 5))))))
      (pss_one (ps_ret (pv 1)))))))), ?_⟩
  refine ⟨_, rfl, x, rfl, for_str (x := x) (fun i σ H' => ∃ (most n k d : Nat) (ah : Str) (v5 : Option V), σ = [some (.str x), some (.int (most : Int)), some (.int (n : Int)), some (.int (k : Int)), some (.str ah), v5] ∧ H' = H ∧ TL.tl ah = [d] ∧ n + (k - 1) ≤ most ∧
      max most (wishL ((TL.tl x).drop i) n k (decide (d = 10 ∨ d = 32))) = wishN x)
    ⟨0, 0, 0, 10, Str.ofString "\n", none, rfl, rfl, tl_feed, Nat.le_refl _, by rw [wish_run]; exact Nat.zero_max _⟩ ?_ ?_⟩
  · rintro i c σ H' hc ⟨most, n, k, d, ah, v5, rfl, rfl, had, hle, inv⟩
    rw [drop_sign hc] at inv
    have tc : TL.tl (⟨#[c]⟩ : Str) = [c] := rfl
    -- the end of a turn
    have fin : ∀ (n' k' : Nat), max (max most (n' + (k' - 1))) (wishL ((TL.tl x).drop (i + 1)) n' k' (decide (c = 10 ∨ c = 32))) = wishN x →
        ∀ (D : Ends), (∀ σ' H'', (∃ (most n k d : Nat) (ah : Str) (v5 : Option V), σ' = [some (.str x), some (.int (most : Int)), some (.int (n : Int)), some (.int (k : Int)), some (.str ah), v5] ∧ H'' = H' ∧ TL.tl ah = [d] ∧ n + (k - 1) ≤ most ∧
          max most (wishL ((TL.tl x).drop (i + 1)) n k (decide (d = 10 ∨ d = 32))) = wishN x) → D.nx σ' H'') →
        (tSeq (tAsg (tCB (fun xs H Q => ∃ i j, xs = [.int i, .int j] ∧ Q (.int (if j > i then j else i)) H) (tCons (tVar 1) (tCons (tOp (rI0 fun i j => .int (i + j)) (tVar 2) (tCB (fun xs H Q => ∃ i j, xs = [.int i, .int j] ∧ Q (.int (if j > i then j else i)) H) (tCons (tC (.int 0)) (tCons (tOp (rI0 fun i j => .int (i - j)) (tVar 3) (tC (.int 1))) tNil)))) tNil))) (gName 1)) (tAsg (tVar 5) (gName 4)))
          D [some (.str x), some (.int (most : Int)), some (.int (n' : Int)), some (.int (k' : Int)), some (.str ah), some (.str ⟨#[c]⟩)] H' := by
      intro n' k' he D hD
      refine ⟨_, rfl, _, rfl, _, rfl, _, _, rfl, rfl, _, _, rfl, _, _, rfl, rfl, _, _, rfl, ?_⟩
      refine ⟨_, rfl, ?_⟩
      refine hD _ _ ⟨max most (n' + (k' - 1)), n', k', c, ⟨#[c]⟩, some (.str ⟨#[c]⟩), ?_, rfl, rfl, Nat.le_max_right _ _, he⟩
      have e1 : (if (k' : Int) - 1 > 0 then (k' : Int) - 1 else 0) = ((k' - 1 : Nat) : Int) := by split <;> omega
      have e2 : (if (n' : Int) + (if (k' : Int) - 1 > 0 then (k' : Int) - 1 else 0) > (most : Int) then (n' : Int) + (if (k' : Int) - 1 > 0 then (k' : Int) - 1 else 0) else (most : Int)) = ((max most (n' + (k' - 1)) : Nat) : Int) := by
        rw [e1]
        exact max_cast most (n' + (k' - 1))
      rw [← e2]
      rfl
    refine ⟨_, rfl, rfl, _, rfl, ?_⟩
    rw [sign_eq tl_feed]
    refine ite2 (fun e => ?_) (fun e => ?_)
    · have e1 : c = 10 := of_decide_eq_true e
      refine fin 0 0 ?_ _ (fun σ' H' h => h)
      rw [← inv, decide_eq_true (.inl e1)]
      show _ = max most (if c = 10 then max (n + (k - 1)) (wishL ((TL.tl x).drop (i + 1)) 0 0 true) else _)
      rw [if_pos e1]
      omega
    · have e1 : ¬ c = 10 := fun z => e (decide_eq_true z)
      refine ⟨_, rfl, rfl, _, rfl, ?_⟩
      rw [sign_eq tl_blank]
      refine ite2 (fun e2 => ?_) (fun e2 => ?_)
      · have e3 : ¬ c = 32 := fun z => by
          rw [decide_eq_true z] at e2
          cases e2
        refine ⟨_, rfl, _, _, rfl, rfl, ?_⟩
        have hah : ah = ⟨#[d]⟩ := TL.ext_tl had
        refine ⟨_, rfl, _, rfl, d, _, congrArg V.str hah, rfl, .inr ⟨_, rfl, _, _, rfl, rfl, ?_⟩⟩
        have ek : (k : Int) + (if decide (d ∈ (Str.ofString " \n").cps.toList) = true then 1 else 0) = (((if decide (d = 10 ∨ d = 32) = true then k + 1 else k) : Nat) : Int) := by
          rw [in_seps]
          split <;> simp
        have en : (n : Int) + 1 = ((n + 1 : Nat) : Int) := by simp
        show tSeq _ _ _ [some (V.str x), some (V.int (most : Int)), some (V.int ((n : Int) + 1)), some (V.int ((k : Int) + (if decide (d ∈ (Str.ofString " \n").cps.toList) = true then 1 else 0))), some (V.str ah), some (V.str ⟨#[c]⟩)] H'
        rw [ek, en]
        refine fin (n + 1) (if decide (d = 10 ∨ d = 32) = true then k + 1 else k) ?_ _ (fun σ' H' h => h)
        rw [← inv, decide_eq_false (show ¬ (c = 10 ∨ c = 32) by omega)]
        show _ = max most (if c = 10 then _ else if c = 32 then _ else wishL ((TL.tl x).drop (i + 1)) (n + 1) (if decide (d = 10 ∨ d = 32) = true then k + 1 else k) false)
        rw [if_neg e1, if_neg e3]
        have := wishL_ge ((TL.tl x).drop (i + 1)) (n + 1) (if decide (d = 10 ∨ d = 32) = true then k + 1 else k) false
        omega
      · have e3 : c = 32 := by
          by_cases h : c = 32
          · exact h
          · exfalso
            apply e2
            rw [decide_eq_false h]
            rfl
        refine fin n k ?_ _ (fun σ' H' h => h)
        rw [← inv, decide_eq_true (.inr e3)]
        show _ = max most (if c = 10 then _ else if c = 32 then wishL ((TL.tl x).drop (i + 1)) n k true else _)
        rw [if_neg e1, if_pos e3]
        omega
  · rintro σ H' ⟨most, n, k, d, ah, v5, rfl, rfl, had, hle, inv⟩
    rw [List.drop_length] at inv
    have e : most = wishN x := by
      have : wishL [] n k (decide (d = 10 ∨ d = 32)) = n + (k - 1) := rfl
      omega
    refine ⟨_, rfl, ?_⟩
    rw [e]
    exact q
theorem ok_same (T : Txt K mg) : Ok P w K mg base CX0 "_law_same" s_same 1 ["_law_found", "_law_due"] spSame := by
  refine T.h_same.ok sc_same (fun vs H Q E h => ?_) (fun f cdv A outer s H vs Q E hr h => ?_)
  · obtain ⟨a, rfl, _⟩ := h; rfl
  obtain ⟨a, rfl, q⟩ := h
  refine ⟨_, (pss_one (ps_ret (pe_and (pe_callB call_isi (by rfl) T.m_isinstance (by decide +kernel) (pa_cons (pv 0) (pa_cons (pe_bltn (v := .ty "int") (by rfl) T.m_int (by decide +kernel) rfl) pa_nil))) (pe_and (pe_not (pe_callB call_isi (by rfl) T.m_isinstance (by decide +kernel) (pa_cons (pv 0) (pa_cons (pe_bltn (v := .ty "bool") (by rfl) T.m_bool (by decide +kernel) rfl) pa_nil)))) (pe_one (pe_cmpR op_eq (pv 0) (pv 1) (nomark _))))))), ?_⟩
  refine ⟨_, rfl, _, _, _, _, true, rfl, .ty _, .base (.int a), kit_ty (by decide +kernel), true, rfl, iteT ?_⟩
  refine ⟨_, rfl, _, _, _, _, false, rfl, .ty _, .base (.int a), kit_ty (by decide +kernel), false, rfl, true, rfl, iteT ?_⟩
  refine ⟨_, rfl, _, rfl, rfl, ?_⟩
  rw [decide_eq_true rfl]
  exact q
theorem ok_right (T : Txt K mg) : Ok P w K mg base CX0 "_law_right" s_right 3 ["_law_text_here"] spRight := by
  have O_same := ok_same (P := P) (w := w) (base := base) T
  have O_p_longest := ok_longest (P := P) (w := w) (base := base) T
  have O_p_wished := ok_wished (P := P) (w := w) (base := base) T
  have O_longest := ok_longC (P := P) (w := w) (base := base) T
  have O_wish := ok_wishC (P := P) (w := w) (base := base) T
  refine T.h_right.ok sc_right (fun vs H Q E h => ?_) (fun f cdv A outer s H vs Q E hr h => ?_)
  · obtain ⟨x, rfl, _⟩ := h; rfl
  obtain ⟨x, rfl, hx, q⟩ := h
  refine ⟨_, (pss_one (ps_ret (pe_and (callO O_same (hr.mono (by decide)) (by rfl) (pa_cons (callO O_p_longest (hr.mono (by decide)) (by rfl) (pa_cons (pv 0) pa_nil)) (pa_cons (callO O_longest (hr.mono (by decide)) (by rfl) (pa_cons (pv 0) pa_nil)) pa_nil))) (pe_one (callO O_same (hr.mono (by decide)) (by rfl) (pa_cons (callO O_p_wished (hr.mono (by decide)) (by rfl) (pa_cons (pv 0) pa_nil)) (pa_cons (callO O_wish (hr.mono (by decide)) (by rfl) (pa_cons (pv 0) pa_nil)) pa_nil))))))), ?_⟩
  refine ⟨_, rfl, x, rfl, hx, fun H1 s1 => ⟨_, rfl, x, rfl, _, rfl, true, rfl, iteT ?_⟩⟩
  refine ⟨_, rfl, x, rfl, hx, fun H2 s2 => ⟨_, rfl, x, rfl, _, rfl, q _ (s1.trans s2)⟩⟩
theorem ok_law {f : Addr} {fd : FuncData} (F : Fun K "law" "law" s_law f fd) (T : Txt K mg) : FnOk P w K mg base CX0 5 f fd ["_law_script"] (spLaw K) := by
  have O_cell_at := ok_cell_at (P := P) (w := w) (base := base) T
  have O_source := ok_source (P := P) (w := w) (base := base) T
  have O_text := ok_text (P := P) (w := w) (base := base) T
  have O_p_longest := ok_longest (P := P) (w := w) (base := base) T
  have O_p_wished := ok_wished (P := P) (w := w) (base := base) T
  have O_longest := ok_longC (P := P) (w := w) (base := base) T
  have O_wish := ok_wishC (P := P) (w := w) (base := base) T
  have O_right := ok_right (P := P) (w := w) (base := base) T
  refine F.ok sc_law (fun vs H Q E h => ?_) (fun cdv A outer s H vs Q E hr h => ?_)
  · obtain ⟨a, ns, rfl, _⟩ := h; rfl
  obtain ⟨a, ns, rfl, hS, hlen, k⟩ := h
  refine ⟨_, (pss_cons (ps_for PassesOwn.never rfl (pi_list (pe_op op_cat (pe_lst (pa_cons (callO O_cell_at (hr.mono (by decide)) (by rfl) (pa_cons (pv 0) (pa_cons pe_int pa_nil))) pa_nil)) (pe_slice sl_list (pv 0) (po_some pe_int) (po_some pe_int)))) (pg_name (i := 1) sc_law.nd rfl (by first | exact Or.inl rfl | exact Or.inr rfl))
      (pss_cons (ps_set (i := 2) sc_law.nd rfl (by first | exact Or.inl rfl | exact Or.inr rfl) (callO O_source (hr.mono (by decide)) (by rfl) (pa_cons (pv 1) pa_nil)))
      (pss_cons (ps_set (i := 3) sc_law.nd rfl (by first | exact Or.inl rfl | exact Or.inr rfl) (callO O_text (hr.mono (by decide)) (by rfl) (pa_cons (pv 2) (pa_cons pe_int pa_nil))))
      (pss_cons (ps_set (i := 4) sc_law.nd rfl (by first | exact Or.inl rfl | exact Or.inr rfl) (callO O_text (hr.mono (by decide)) (by rfl) (pa_cons (pv 2) (pa_cons pe_int pa_nil))))
      (pss_cons (ps_if (PW.pt (pw_or (pt_not (pt_val (callO O_right (hr.mono (by decide)) (by rfl) (pa_cons (pv 3) pa_nil)))) (pw_or1 (pt_not (pt_val (callO O_right (hr.mono (by decide)) (by rfl) (pa_cons (pv 4) pa_nil)))))))
      (pss_one (ps_ret pe_bl))
      pss_nil)
      (pss_cons (ps_set (i := 5) sc_law.nd rfl (by first | exact Or.inl rfl | exact Or.inr rfl) (pe_op op_add_str (pe_op op_add_str (pv 3) pe_str) (pv 4)))
      (pss_cons (ps_if (pt_cmpR op_ne (callO O_p_longest (hr.mono (by decide)) (by rfl) (pa_cons (pv 5) pa_nil)) (pe_callB (call_max2 rfl) (by rfl) T.m_max (by decide +kernel) (pa_cons (callO O_longest (hr.mono (by decide)) (by rfl) (pa_cons (pv 3) pa_nil)) (pa_cons (callO O_longest (hr.mono (by decide)) (by rfl) (pa_cons (pv 4) pa_nil)) pa_nil))) (nomark _))
      (pss_one (ps_ret pe_bl))
      pss_nil)
      (pss_cons (ps_if (pt_cmpR op_ne (callO O_p_wished (hr.mono (by decide)) (by rfl) (pa_cons (pv 5) pa_nil)) (pe_callB (call_max2 rfl) (by rfl) T.m_max (by decide +kernel) (pa_cons (callO O_wish (hr.mono (by decide)) (by rfl) (pa_cons (pv 3) pa_nil)) (pa_cons (callO O_wish (hr.mono (by decide)) (by rfl) (pa_cons (pv 4) pa_nil)) pa_nil))) (nomark _))
      (pss_one (ps_ret pe_bl))
      pss_nil)
      (pss_cons (ps_set (i := 6) sc_law.nd rfl (by first | exact Or.inl rfl | exact Or.inr rfl) (pe_op op_add_str (pe_litAdd op_add_str (CwR.pet_replC (pv 3))) pe_str))
      (pss_one (ps_if (PW.pt (pw_or (pt_cmpR op_ne (callO O_p_longest (hr.mono (by decide)) (by rfl) (pa_cons (pv 6) pa_nil)) (callO O_longest (hr.mono (by decide)) (by rfl) (pa_cons (pv 3) pa_nil)) (nomark _)) (pw_or1 (pt_cmpR op_ne (callO O_p_wished (hr.mono (by decide)) (by rfl) (pa_cons (pv 6) pa_nil)) (callO O_wish (hr.mono (by decide)) (by rfl) (pa_cons (pv 3) pa_nil)) (nomark _)))))
      (pss_one (ps_ret pe_bl))
      pss_nil)))))))))))
      (pss_one (ps_ret (pe_and (callO O_right (hr.mono (by decide)) (by rfl) (pa_cons pe_str pa_nil)) (pe_and (callO O_right (hr.mono (by decide)) (by rfl) (pa_cons pe_str pa_nil)) (pe_and (callO O_right (hr.mono (by decide)) (by rfl) (pa_cons pe_str pa_nil)) (pe_one (callO O_right (hr.mono (by decide)) (by rfl) (pa_cons pe_str pa_nil))))))))), ?_⟩
  refine cells_for rfl hS hlen fun L zs HB hL sB => ?_
  refine for_list (K := K) (a := L) (xs := zs.map V.int) (fun i σ H2 => (∃ v1 v2 v3 v4 v5 v6, σ = [some (.ref a), v1, v2, v3, v4, v5, v6]) ∧ Same HB H2)
    ⟨⟨none, none, none, none, none, none, rfl⟩, .refl _⟩ (fun i σ H2 _ h2 => .of (h2.2 _ _ hL)) ?_ (fun σ H2 h2 => ?_)
  · rintro i y σ H2 hi ⟨⟨v1, v2, v3, v4, v5, v6, rfl⟩, sm⟩
    obtain ⟨z, rfl, _⟩ := int_at hi
    refine ⟨_, rfl, z, rfl, fun p H3 np s3 sm3 => ?_⟩
    refine ⟨_, rfl, p, 160, rfl, s3, fun x H4 hx okx s4 o4 => ?_⟩
    refine ⟨_, rfl, p, 160, rfl, s4, fun y H5 hy oky s5 o5 => ?_⟩
    have old : Same HB H5 := fun c o hc => by
      have n1 : c ≠ p := ne_of_none (sm _ _ hc) np
      exact o5 _ _ (o4 _ _ (sm3 _ _ (sm _ _ hc)) n1) n1
    refine ⟨_, rfl, x, rfl, by omega, fun H6 s6 => ⟨true, rfl, iteF ?_⟩⟩
    refine ⟨_, rfl, y, rfl, by omega, fun H7 s7 => ⟨true, rfl, iteF ?_⟩⟩
    have f1 : (Str.ofString "\n").length = 1 := by decide +kernel
    have ll : (x ++ Str.ofString "\n").length = x.length + 1 := by rw [len_append, f1]
    have lb : (x ++ Str.ofString "\n" ++ y).length = x.length + 1 + y.length := by rw [len_append, ll]
    refine ⟨_, rfl, _, _, rfl, rfl, bigl (by omega), _, rfl, _, _, rfl, rfl, bigl (by omega), ?_⟩
    have eL : longN (x ++ Str.ofString "\n" ++ y) = max (longN x) (longN y) := by
      unfold longN
      rw [parts_app, List.flatten_append, List.map_append, maxN_app]
    have eW : wishN (x ++ Str.ofString "\n" ++ y) = max (wishN x) (wishN y) := by
      unfold wishN
      rw [parts_app, List.map_append, maxN_app]
    refine ⟨_, rfl, _, rfl, by omega, fun H8 s8 => ⟨_, rfl, x, rfl, _, rfl, y, rfl, _, _, rfl, rfl, false, ?_, iteF ?_⟩⟩
    · rw [eL, ← max_cast]
      exact congrArg (fun b => V.bl (!b)) (decide_eq_true rfl)
    refine ⟨_, rfl, _, rfl, by omega, fun H9 s9 => ⟨_, rfl, x, rfl, _, rfl, y, rfl, _, _, rfl, rfl, false, ?_, iteF ?_⟩⟩
    · rw [eW, ← max_cast]
      exact congrArg (fun b => V.bl (!b)) (decide_eq_true rfl)
    have dl : (Txt.replace x (Str.ofString " ") (Str.ofString "  ")).length ≤ 2 * x.length := by
      rw [TL.len_tl, tl_repl, TL.len_tl]
      exact dbl_len _
    have bl1 : (Str.ofString " ").length = 1 := by decide +kernel
    have bl2 : (Str.ofString "  ").length = 2 := by decide +kernel
    have l1 : (Str.ofString " " ++ Txt.replace x (Str.ofString " ") (Str.ofString "  ")).length ≤ 1 + 2 * x.length := by
      rw [len_append, bl1]
      omega
    refine ⟨_, rfl, x, rfl, by rw [bl2]; omega, _, _, rfl, rfl, bigl (by omega), _, _, rfl, rfl, bigl (by omega), ?_⟩
    have lw : (Str.ofString " " ++ Txt.replace x (Str.ofString " ") (Str.ofString "  ") ++ Str.ofString "  ").length ≤ 2000 := by
      rw [len_append, bl2]
      omega
    have eL2 : longN (Str.ofString " " ++ Txt.replace x (Str.ofString " ") (Str.ofString "  ") ++ Str.ofString "  ") = longN x := by
      unfold longN
      rw [parts_wide]
    have eW2 : wishN (Str.ofString " " ++ Txt.replace x (Str.ofString " ") (Str.ofString "  ") ++ Str.ofString "  ") = wishN x := by
      unfold wishN
      rw [parts_wide]
    refine ⟨_, rfl, _, rfl, lw, fun H10 s10 => ⟨_, rfl, x, rfl, rfl, false, ?_, iteF ?_⟩⟩
    · rw [eL2]
      exact congrArg (fun b => V.bl (!b)) (decide_eq_true rfl)
    refine ⟨_, rfl, _, rfl, lw, fun H11 s11 => ⟨_, rfl, x, rfl, rfl, false, ?_, iteF ?_⟩⟩
    · rw [eW2]
      exact congrArg (fun b => V.bl (!b)) (decide_eq_true rfl)
    exact ⟨⟨_, _, _, _, _, _, rfl⟩, old.trans (s6.trans (s7.trans (s8.trans (s9.trans (s10.trans s11)))))⟩
  · refine ⟨_, rfl, by decide +kernel, fun H3 s3 => ⟨true, rfl, iteT ?_⟩⟩
    refine ⟨_, rfl, by decide +kernel, fun H4 s4 => ⟨true, rfl, iteT ?_⟩⟩
    refine ⟨_, rfl, by decide +kernel, fun H5 s5 => ⟨true, rfl, iteT ?_⟩⟩
    exact ⟨_, rfl, by decide +kernel, fun H6 s6 => k _⟩
end

theorem all_mk {l : PySem.W.OpenLaw} {w : World} {K : PySem.W.Frag} {h : Heap} {mg : Str → Option Value} {fa : Addr} (X : K.In h) (G : h.Ns mainGlobals mg) (hfa : mg "law" = some (.ref fa))
    {f0 f1 f2 f3 f4 f5 f6 f7 f8 f9 f10 f11 f12 f13 f14 : Addr} {od0 an0 od1 an1 od2 an2 od3 an3 od4 an4 od5 an5 od6 an6 od7 an7 od8 an8 od9 an9 od10 an10 od11 an11 od12 an12 od13 an13 od14 an14 : Option Addr} {sl0 sl1 sl2 sl3 sl4 sl5 sl6 sl7 sl8 sl9 sl10 sl11 sl12 sl13 sl14 : Array (Option Value)}
    {oc0 kV0 dc0 pm0 cd0 ct0 oc1 kV1 dc1 pm1 cd1 ct1 oc2 kV2 dc2 pm2 cd2 ct2 oc3 kV3 dc3 pm3 cd3 ct3 oc4 kV4 dc4 pm4 cd4 ct4 oc5 kV5 dc5 pm5 cd5 ct5 oc6 kV6 dc6 pm6 cd6 ct6 oc7 kV7 dc7 pm7 cd7 ct7 oc8 kV8 dc8 pm8 cd8 ct8 oc9 kV9 dc9 pm9 cd9 ct9 oc10 kV10 dc10 pm10 cd10 ct10 oc11 kV11 dc11 pm11 cd11 ct11 oc12 kV12 dc12 pm12 cd12 ct12 oc13 kV13 dc13 pm13 cd13 ct13 oc14 kV14 dc14 pm14 cd14 ct14 : Value}
    (a0 : PySem.W.nsIn K mainGlobals "longest" = some (some (.ref f0))) (l0 : K.lookup f0 = some ⟨oc0, od0, .func (PySem.W.fnOf "longest" "longest" (defArgs s_p_longest) (defBody s_p_longest) (defScope s_p_longest) .none kV0 dc0 pm0 an0 cd0 ct0), sl0⟩) (c0 : PySem.W.codeIn K cd0 "longest" = true) (k0 : PySem.W.keepIn K (.ref f0) = true)
    (a1 : PySem.W.nsIn K mainGlobals "wished" = some (some (.ref f1))) (l1 : K.lookup f1 = some ⟨oc1, od1, .func (PySem.W.fnOf "wished" "wished" (defArgs s_p_wished) (defBody s_p_wished) (defScope s_p_wished) .none kV1 dc1 pm1 an1 cd1 ct1), sl1⟩) (c1 : PySem.W.codeIn K cd1 "wished" = true) (k1 : PySem.W.keepIn K (.ref f1) = true)
    (a2 : PySem.W.nsIn K mainGlobals "refuse_no_text" = some (some (.ref f2))) (l2 : K.lookup f2 = some ⟨oc2, od2, .func (PySem.W.fnOf "refuse_no_text" "refuse_no_text" (defArgs s_p_refuse_no_text) (defBody s_p_refuse_no_text) (defScope s_p_refuse_no_text) .none kV2 dc2 pm2 an2 cd2 ct2), sl2⟩) (c2 : PySem.W.codeIn K cd2 "refuse_no_text" = true) (k2 : PySem.W.keepIn K (.ref f2) = true)
    (a3 : PySem.W.nsIn K mainGlobals "parts_of" = some (some (.ref f3))) (l3 : K.lookup f3 = some ⟨oc3, od3, .func (PySem.W.fnOf "parts_of" "parts_of" (defArgs s_p_parts_of) (defBody s_p_parts_of) (defScope s_p_parts_of) .none kV3 dc3 pm3 an3 cd3 ct3), sl3⟩) (c3 : PySem.W.codeIn K cd3 "parts_of" = true) (k3 : PySem.W.keepIn K (.ref f3) = true)
    (a4 : PySem.W.nsIn K mainGlobals "_law_cell_at" = some (some (.ref f4))) (l4 : K.lookup f4 = some ⟨oc4, od4, .func (PySem.W.fnOf "_law_cell_at" "_law_cell_at" (defArgs s_cell_at) (defBody s_cell_at) (defScope s_cell_at) .none kV4 dc4 pm4 an4 cd4 ct4), sl4⟩) (c4 : PySem.W.codeIn K cd4 "_law_cell_at" = true) (k4 : PySem.W.keepIn K (.ref f4) = true)
    (a5 : PySem.W.nsIn K mainGlobals "_law_mixed" = some (some (.ref f5))) (l5 : K.lookup f5 = some ⟨oc5, od5, .func (PySem.W.fnOf "_law_mixed" "_law_mixed" (defArgs s_mixed) (defBody s_mixed) (defScope s_mixed) .none kV5 dc5 pm5 an5 cd5 ct5), sl5⟩) (c5 : PySem.W.codeIn K cd5 "_law_mixed" = true) (k5 : PySem.W.keepIn K (.ref f5) = true)
    (a6 : PySem.W.nsIn K mainGlobals "_law_source" = some (some (.ref f6))) (l6 : K.lookup f6 = some ⟨oc6, od6, .func (PySem.W.fnOf "_law_source" "_law_source" (defArgs s_source) (defBody s_source) (defScope s_source) .none kV6 dc6 pm6 an6 cd6 ct6), sl6⟩) (c6 : PySem.W.codeIn K cd6 "_law_source" = true) (k6 : PySem.W.keepIn K (.ref f6) = true)
    (a7 : PySem.W.nsIn K mainGlobals "_law_next" = some (some (.ref f7))) (l7 : K.lookup f7 = some ⟨oc7, od7, .func (PySem.W.fnOf "_law_next" "_law_next" (defArgs s_next) (defBody s_next) (defScope s_next) .none kV7 dc7 pm7 an7 cd7 ct7), sl7⟩) (c7 : PySem.W.codeIn K cd7 "_law_next" = true) (k7 : PySem.W.keepIn K (.ref f7) = true)
    (a8 : PySem.W.nsIn K mainGlobals "_law_word" = some (some (.ref f8))) (l8 : K.lookup f8 = some ⟨oc8, od8, .func (PySem.W.fnOf "_law_word" "_law_word" (defArgs s_word) (defBody s_word) (defScope s_word) .none kV8 dc8 pm8 an8 cd8 ct8), sl8⟩) (c8 : PySem.W.codeIn K cd8 "_law_word" = true) (k8 : PySem.W.keepIn K (.ref f8) = true)
    (a9 : PySem.W.nsIn K mainGlobals "_law_text" = some (some (.ref f9))) (l9 : K.lookup f9 = some ⟨oc9, od9, .func (PySem.W.fnOf "_law_text" "_law_text" (defArgs s_text) (defBody s_text) (defScope s_text) .none kV9 dc9 pm9 an9 cd9 ct9), sl9⟩) (c9 : PySem.W.codeIn K cd9 "_law_text" = true) (k9 : PySem.W.keepIn K (.ref f9) = true)
    (a10 : PySem.W.nsIn K mainGlobals "_law_longest" = some (some (.ref f10))) (l10 : K.lookup f10 = some ⟨oc10, od10, .func (PySem.W.fnOf "_law_longest" "_law_longest" (defArgs s_longest) (defBody s_longest) (defScope s_longest) .none kV10 dc10 pm10 an10 cd10 ct10), sl10⟩) (c10 : PySem.W.codeIn K cd10 "_law_longest" = true) (k10 : PySem.W.keepIn K (.ref f10) = true)
    (a11 : PySem.W.nsIn K mainGlobals "_law_wish" = some (some (.ref f11))) (l11 : K.lookup f11 = some ⟨oc11, od11, .func (PySem.W.fnOf "_law_wish" "_law_wish" (defArgs s_wish) (defBody s_wish) (defScope s_wish) .none kV11 dc11 pm11 an11 cd11 ct11), sl11⟩) (c11 : PySem.W.codeIn K cd11 "_law_wish" = true) (k11 : PySem.W.keepIn K (.ref f11) = true)
    (a12 : PySem.W.nsIn K mainGlobals "_law_same" = some (some (.ref f12))) (l12 : K.lookup f12 = some ⟨oc12, od12, .func (PySem.W.fnOf "_law_same" "_law_same" (defArgs s_same) (defBody s_same) (defScope s_same) .none kV12 dc12 pm12 an12 cd12 ct12), sl12⟩) (c12 : PySem.W.codeIn K cd12 "_law_same" = true) (k12 : PySem.W.keepIn K (.ref f12) = true)
    (a13 : PySem.W.nsIn K mainGlobals "_law_right" = some (some (.ref f13))) (l13 : K.lookup f13 = some ⟨oc13, od13, .func (PySem.W.fnOf "_law_right" "_law_right" (defArgs s_right) (defBody s_right) (defScope s_right) .none kV13 dc13 pm13 an13 cd13 ct13), sl13⟩) (c13 : PySem.W.codeIn K cd13 "_law_right" = true) (k13 : PySem.W.keepIn K (.ref f13) = true)
    (a14 : PySem.W.nsIn K mainGlobals "law" = some (some (.ref f14))) (l14 : K.lookup f14 = some ⟨oc14, od14, .func (PySem.W.fnOf "law" "law" (defArgs s_law) (defBody s_law) (defScope s_law) .none kV14 dc14 pm14 an14 cd14 ct14), sl14⟩) (c14 : PySem.W.codeIn K cd14 "law" = true) (k14 : PySem.W.keepIn K (.ref f14) = true)
    (z_max : PySem.W.nsIn K mainGlobals "max" = some none)
    (z_len : PySem.W.nsIn K mainGlobals "len" = some none)
    (z_isinstance : PySem.W.nsIn K mainGlobals "isinstance" = some none)
    (z_str : PySem.W.nsIn K mainGlobals "str" = some none)
    (z_range : PySem.W.nsIn K mainGlobals "range" = some none)
    (z_int : PySem.W.nsIn K mainGlobals "int" = some none)
    (z_bool : PySem.W.nsIn K mainGlobals "bool" = some none) :
    ∃ fd : FuncData, (∀ (s : Shared) (v : Value), BindsTo s fd ⟨[v], []⟩ [("_law_script", v)]) ∧ ∀ base : Heap, K.In base → base.Ns mainGlobals mg → FnOk l.prog w K mg base CX0 5 fa fd ["_law_script"] (spLaw K) := by
  have e := hfa.symm.trans (PySem.W.mg_of X G a14)
  cases e
  have H0 : Has K mg "longest" s_p_longest ["text"] := has_mk (fun_mk (st := s_p_longest) l0 c0 k0) (PySem.W.mg_of X G a0) (fun _ _ _ _ _ _ us hl => match us, hl with | [_], _ => rfl)
  have H1 : Has K mg "wished" s_p_wished ["text"] := has_mk (fun_mk (st := s_p_wished) l1 c1 k1) (PySem.W.mg_of X G a1) (fun _ _ _ _ _ _ us hl => match us, hl with | [_], _ => rfl)
  have H2 : Has K mg "refuse_no_text" s_p_refuse_no_text ["thing"] := has_mk (fun_mk (st := s_p_refuse_no_text) l2 c2 k2) (PySem.W.mg_of X G a2) (fun _ _ _ _ _ _ us hl => match us, hl with | [_], _ => rfl)
  have H3 : Has K mg "parts_of" s_p_parts_of ["text"] := has_mk (fun_mk (st := s_p_parts_of) l3 c3 k3) (PySem.W.mg_of X G a3) (fun _ _ _ _ _ _ us hl => match us, hl with | [_], _ => rfl)
  have H4 : Has K mg "_law_cell_at" s_cell_at ["_law_script", "_law_k"] := has_mk (fun_mk (st := s_cell_at) l4 c4 k4) (PySem.W.mg_of X G a4) (fun _ _ _ _ _ _ us hl => match us, hl with | [_, _], _ => rfl)
  have H5 : Has K mg "_law_mixed" s_mixed ["_law_cell", "_law_k"] := has_mk (fun_mk (st := s_mixed) l5 c5 k5) (PySem.W.mg_of X G a5) (fun _ _ _ _ _ _ us hl => match us, hl with | [_, _], _ => rfl)
  have H6 : Has K mg "_law_source" s_source ["_law_cell"] := has_mk (fun_mk (st := s_source) l6 c6 k6) (PySem.W.mg_of X G a6) (fun _ _ _ _ _ _ us hl => match us, hl with | [_], _ => rfl)
  have H7 : Has K mg "_law_next" s_next ["_law_source_here", "_law_many"] := has_mk (fun_mk (st := s_next) l7 c7 k7) (PySem.W.mg_of X G a7) (fun _ _ _ _ _ _ us hl => match us, hl with | [_, _], _ => rfl)
  have H8 : Has K mg "_law_word" s_word ["_law_source_here"] := has_mk (fun_mk (st := s_word) l8 c8 k8) (PySem.W.mg_of X G a8) (fun _ _ _ _ _ _ us hl => match us, hl with | [_], _ => rfl)
  have H9 : Has K mg "_law_text" s_text ["_law_source_here", "_law_most"] := has_mk (fun_mk (st := s_text) l9 c9 k9) (PySem.W.mg_of X G a9) (fun _ _ _ _ _ _ us hl => match us, hl with | [_, _], _ => rfl)
  have H10 : Has K mg "_law_longest" s_longest ["_law_text_here"] := has_mk (fun_mk (st := s_longest) l10 c10 k10) (PySem.W.mg_of X G a10) (fun _ _ _ _ _ _ us hl => match us, hl with | [_], _ => rfl)
  have H11 : Has K mg "_law_wish" s_wish ["_law_text_here"] := has_mk (fun_mk (st := s_wish) l11 c11 k11) (PySem.W.mg_of X G a11) (fun _ _ _ _ _ _ us hl => match us, hl with | [_], _ => rfl)
  have H12 : Has K mg "_law_same" s_same ["_law_found", "_law_due"] := has_mk (fun_mk (st := s_same) l12 c12 k12) (PySem.W.mg_of X G a12) (fun _ _ _ _ _ _ us hl => match us, hl with | [_, _], _ => rfl)
  have H13 : Has K mg "_law_right" s_right ["_law_text_here"] := has_mk (fun_mk (st := s_right) l13 c13 k13) (PySem.W.mg_of X G a13) (fun _ _ _ _ _ _ us hl => match us, hl with | [_], _ => rfl)
  have T : Txt K mg := ⟨H0, H1, H2, H3, H4, H5, H6, H7, H8, H9, H10, H11, H12, H13, PySem.W.mg_none_of X G z_max, PySem.W.mg_none_of X G z_len, PySem.W.mg_none_of X G z_isinstance, PySem.W.mg_none_of X G z_str, PySem.W.mg_none_of X G z_range, PySem.W.mg_none_of X G z_int, PySem.W.mg_none_of X G z_bool⟩
  exact ⟨_, fun s v => .of_eq rfl, fun base _ _ => ok_law (fun_mk (st := s_law) l14 c14 k14) T⟩
end K09
open PySem PySem.W PyProof.Rows
set_option maxRecDepth 100000 in
set_option maxHeartbeats 0 in
theorem PySem.Challenge.cw_nestlaid_k09_longest_and_wished_holds : PySem.Challenge.rw_nestlaid_k09_longest_and_wished.Holds := by
  w_on; o_law; k_head; (case hw => w_witness2)
  k_fill
  refine L2.walk_of (l := PySem.Challenge.rw_nestlaid_k09_longest_and_wished) (n := 63) (k := 5) (x := "_law_script") (CX := fun _ => L2.CX0) (sp := fun w => K09.spLaw _) rfl (by decide) rfl ⟨rfl, by decide, by decide⟩ (fun w h Y => PySem.W.kIn_of Y) ?F (fun _ _ a ns hl _ hS => ⟨a, ns, rfl, hS, hl, fun _ => rfl⟩) (fun _ _ _ _ _ h => h)
  case F =>
    intro w mg fa h KX G hmg
    refine' K09.all_mk KX G hmg ?a0 ?l0 ?c0 ?k0 ?a1 ?l1 ?c1 ?k1 ?a2 ?l2 ?c2 ?k2 ?a3 ?l3 ?c3 ?k3 ?a4 ?l4 ?c4 ?k4 ?a5 ?l5 ?c5 ?k5 ?a6 ?l6 ?c6 ?k6 ?a7 ?l7 ?c7 ?k7 ?a8 ?l8 ?c8 ?k8 ?a9 ?l9 ?c9 ?k9 ?a10 ?l10 ?c10 ?k10 ?a11 ?l11 ?c11 ?k11 ?a12 ?l12 ?c12 ?k12 ?a13 ?l13 ?c13 ?k13 ?a14 ?l14 ?c14 ?k14 ?z_max ?z_len ?z_isinstance ?z_str ?z_range ?z_int ?z_bool
    (case a0 => k_is); (case l0 => k_is); (case c0 => k_is); (case k0 => k_is)
    (case a1 => k_is); (case l1 => k_is); (case c1 => k_is); (case k1 => k_is)
    (case a2 => k_is); (case l2 => k_is); (case c2 => k_is); (case k2 => k_is)
    (case a3 => k_is); (case l3 => k_is); (case c3 => k_is); (case k3 => k_is)
    (case a4 => k_is); (case l4 => k_is); (case c4 => k_is); (case k4 => k_is)
    (case a5 => k_is); (case l5 => k_is); (case c5 => k_is); (case k5 => k_is)
    (case a6 => k_is); (case l6 => k_is); (case c6 => k_is); (case k6 => k_is)
    (case a7 => k_is); (case l7 => k_is); (case c7 => k_is); (case k7 => k_is)
    (case a8 => k_is); (case l8 => k_is); (case c8 => k_is); (case k8 => k_is)
    (case a9 => k_is); (case l9 => k_is); (case c9 => k_is); (case k9 => k_is)
    (case a10 => k_is); (case l10 => k_is); (case c10 => k_is); (case k10 => k_is)
    (case a11 => k_is); (case l11 => k_is); (case c11 => k_is); (case k11 => k_is)
    (case a12 => k_is); (case l12 => k_is); (case c12 => k_is); (case k12 => k_is)
    (case a13 => k_is); (case l13 => k_is); (case c13 => k_is); (case k13 => k_is)
    (case a14 => k_is); (case l14 => k_is); (case c14 => k_is); (case k14 => k_is)
    (case z_max => k_is); (case z_len => k_is); (case z_isinstance => k_is); (case z_str => k_is)
    (case z_range => k_is); (case z_int => k_is); (case z_bool => k_is)
