import PyProof.Rows.All
import Wide.All
import OpenK.AllK
import Wide.FinOn
import HandS.ForMost
import HandS.ForExc
import HandS.Wide
import HandS.Defaults
import HandS.IsInst
import HandS.FStr
import HandS.Walk
import HandS.CallLocal
import HandS.Evl
import HandS.ExcIs
import HandS.Conv
import HandS.Style
import PyProof.NeKinds
import HandS.SetFor
import HandS.Strs
import HandS.MakeKwOnly
import HandS.Zip
import HandS.TryOnly
import HandS.Head0
import HandS.Head1
import HandS.Head2
import HandS.HeadEnd
import HandS.HeadHook1
import HandS.HeadHook2
import KE.KSuper
import HandS.SortKw
import HandS.Rev
import HandS.Nested
import HandS.ClsMeth
import HandS.ReplaceLit
import HandS.ReplaceList
import HandS.Flow
import HandS.Comp
import HandS.HotCalls
import HandS.ExcCtx
import HandS.RaiseMore
import PySem.Challenge.RW_nestlaid_k16_styles_refused
set_option Elab.async false
set_option linter.all false
set_option maxRecDepth 100000
set_option maxHeartbeats 4000000
namespace Dd
open PySem PySem.Spec PyProof.Rows L2
/-! ### data -/
inductive D where
  | non
  | bl (b : Bool)
  | int (i : Int)
  | str (x : Str)
  | lst (xs : List D)
  | tup (xs : List D)
  | scr (ns : List Int)
  | dK (ks : List Key) (vs : List D)
  | dT (ks : List (List Key)) (vs : List D)
  | obj (c : Str) (ks : List Str) (vs : List D)
  | ty (n : String)
  | cls (c : Str)
instance : Inhabited D := ⟨.non⟩
def clsA (mg : Str → Option Value) (x : Str) : Addr := match mg x with
  | some (.ref a) => a
  | _ => 0
theorem clsA_of {mg : Str → Option Value} {x : Str} {a : Addr} (h : mg x = some (.ref a)) : clsA mg x = a := by
  unfold clsA
  rw [h]
/-! ### a value that stands for a datum -/
mutual
def Rep (K : PySem.W.Frag) (mg : Str → Option Value) (H : Hp) : D → V → Prop
  | .non, v => v = .non
  | .bl b, v => v = .bl b
  | .int i, v => v = .int i
  | .str x, v => v = .str x
  | .lst ds, v => ∃ a xs, v = .ref a ∧ H a = some (.lst xs) ∧ RepL K mg H ds xs
  | .tup ds, v => ∃ a xs, v = .ref a ∧ SqT K H a xs ∧ RepL K mg H ds xs
  | .scr ns, v => ∃ a, v = .ref a ∧ SqL K H a (ns.map V.int)
  | .dK ks ds, v => ∃ a xs, v = .ref a ∧ Rd H a (.dK (ks.zip xs)) ∧ ks.length = ds.length ∧ RepL K mg H ds xs
  | .dT ks ds, v => ∃ a xs, v = .ref a ∧ H a = some (.dT (ks.zip xs)) ∧ ks.length = ds.length ∧ RepL K mg H ds xs
  | .obj c ks ds, v => ∃ a dx xs, v = .ref a ∧ H a = some (.ins (clsA mg c) dx (ks.zip xs)) ∧ ks.length = ds.length ∧ RepL K mg H ds xs
  | .ty n, v => v = .ty n
  | .cls c, v => v = .ref (clsA mg c)
def RepL (K : PySem.W.Frag) (mg : Str → Option Value) (H : Hp) : List D → List V → Prop
  | [], xs => xs = []
  | d :: ds, xs => ∃ x r, xs = x :: r ∧ Rep K mg H d x ∧ RepL K mg H ds r
end
section
variable {K : PySem.W.Frag} {mg : Str → Option Value} {H H' F : Hp}
theorem sameT {a : Addr} {xs : List V} (s : Same H H') (h : SqT K H a xs) : SqT K H' a xs := by
  rcases h with (h | ⟨o, h⟩) | h
  · exact .inl (.inl (s _ _ h))
  · exact .inl (.inr ⟨o, s _ _ h⟩)
  · exact .inr h
theorem rd_mono {a : Addr} {u : HO} (s : Same H H') (h : Rd H a u) : Rd H' a u := h.elim (fun h => .inl (s _ _ h)) fun ⟨o, h⟩ => .inr ⟨o, s _ _ h⟩
mutual
theorem Rep.mono (s : Same H H') : ∀ {d : D} {v : V}, Rep K mg H d v → Rep K mg H' d v
  | .non, v, h => by unfold Rep at h ⊢; exact h
  | .bl b, v, h => by unfold Rep at h ⊢; exact h
  | .int b, v, h => by unfold Rep at h ⊢; exact h
  | .str b, v, h => by unfold Rep at h ⊢; exact h
  | .ty b, v, h => by unfold Rep at h ⊢; exact h
  | .cls b, v, h => by unfold Rep at h ⊢; exact h
  | .lst ds, v, h => by
    unfold Rep at h ⊢
    obtain ⟨a, xs, e, h1, h2⟩ := h
    exact ⟨a, xs, e, s _ _ h1, RepL.mono s h2⟩
  | .tup ds, v, h => by
    unfold Rep at h ⊢
    obtain ⟨a, xs, e, h1, h2⟩ := h
    exact ⟨a, xs, e, sameT s h1, RepL.mono s h2⟩
  | .scr ns, v, h => by
    unfold Rep at h ⊢
    obtain ⟨a, e, h1⟩ := h
    exact ⟨a, e, s.seq h1⟩
  | .dK ks ds, v, h => by
    unfold Rep at h ⊢
    obtain ⟨a, xs, e, h1, h0, h2⟩ := h
    exact ⟨a, xs, e, rd_mono s h1, h0, RepL.mono s h2⟩
  | .dT ks ds, v, h => by
    unfold Rep at h ⊢
    obtain ⟨a, xs, e, h1, h0, h2⟩ := h
    exact ⟨a, xs, e, s _ _ h1, h0, RepL.mono s h2⟩
  | .obj c ks ds, v, h => by
    unfold Rep at h ⊢
    obtain ⟨a, dx, xs, e, h1, h0, h2⟩ := h
    exact ⟨a, dx, xs, e, s _ _ h1, h0, RepL.mono s h2⟩
theorem RepL.mono (s : Same H H') : ∀ {ds : List D} {xs : List V}, RepL K mg H ds xs → RepL K mg H' ds xs
  | [], xs, h => by unfold RepL at h ⊢; exact h
  | d :: ds, xs, h => by
    unfold RepL at h ⊢
    obtain ⟨x, r, e, h1, h2⟩ := h
    exact ⟨x, r, e, Rep.mono s h1, RepL.mono s h2⟩
end
theorem RepL.nil {xs : List V} (h : RepL K mg H [] xs) : xs = [] := by unfold RepL at h; exact h
theorem repNil : RepL K mg H [] [] := by unfold RepL; rfl
theorem repCons {d : D} {ds : List D} {x : V} {xs : List V} (h : Rep K mg H d x) (hs : RepL K mg H ds xs) : RepL K mg H (d :: ds) (x :: xs) := by
  unfold RepL
  exact ⟨x, xs, rfl, h, hs⟩
theorem RepL.cons {d : D} {ds : List D} {xs : List V} (h : RepL K mg H (d :: ds) xs) : ∃ x r, xs = x :: r ∧ Rep K mg H d x ∧ RepL K mg H ds r := by
  unfold RepL at h
  exact h
theorem RepL.len : ∀ {ds : List D} {xs : List V}, RepL K mg H ds xs → xs.length = ds.length
  | [], xs, h => by rw [h.nil]; rfl
  | d :: ds, xs, h => by
    obtain ⟨x, r, rfl, _, h2⟩ := h.cons
    simp [RepL.len h2]
theorem RepL.get : ∀ {ds : List D} {xs : List V} {i : Nat} {d : D}, RepL K mg H ds xs → ds[i]? = some d → ∃ x, xs[i]? = some x ∧ Rep K mg H d x
  | [], xs, i, d, h, e => by simp at e
  | d :: ds, xs, 0, d', h, e => by
    obtain ⟨x, r, rfl, h1, h2⟩ := h.cons
    simp at e
    subst e
    exact ⟨x, rfl, h1⟩
  | d :: ds, xs, i + 1, d', h, e => by
    obtain ⟨x, r, rfl, h1, h2⟩ := h.cons
    obtain ⟨y, h3, h4⟩ := RepL.get (i := i) h2 (by simpa using e)
    exact ⟨y, by simpa using h3, h4⟩
theorem RepL.app : ∀ {ds es : List D} {xs ys : List V}, RepL K mg H ds xs → RepL K mg H es ys → RepL K mg H (ds ++ es) (xs ++ ys)
  | [], es, xs, ys, h, h' => by rw [h.nil]; exact h'
  | d :: ds, es, xs, ys, h, h' => by
    obtain ⟨x, r, rfl, h1, h2⟩ := h.cons
    exact repCons h1 (RepL.app h2 h')
theorem RepL.take : ∀ {ds : List D} {xs : List V} (n : Nat), RepL K mg H ds xs → RepL K mg H (ds.take n) (xs.take n)
  | ds, xs, 0, h => by simpa using repNil
  | [], xs, n + 1, h => by rw [h.nil]; simpa using repNil
  | d :: ds, xs, n + 1, h => by
    obtain ⟨x, r, rfl, h1, h2⟩ := h.cons
    simpa using repCons h1 (RepL.take n h2)
theorem RepL.drop : ∀ {ds : List D} {xs : List V} (n : Nat), RepL K mg H ds xs → RepL K mg H (ds.drop n) (xs.drop n)
  | ds, xs, 0, h => by simpa using h
  | [], xs, n + 1, h => by rw [h.nil]; simpa using repNil
  | d :: ds, xs, n + 1, h => by
    obtain ⟨x, r, rfl, h1, h2⟩ := h.cons
    simpa using RepL.drop n h2
theorem RepL.set : ∀ {ds : List D} {xs : List V} {d : D} {x : V} (n : Nat), RepL K mg H ds xs → Rep K mg H d x → RepL K mg H (ds.set n d) (xs.set n x)
  | [], xs, d, x, n, h, hd => by rw [h.nil]; simpa using repNil
  | e :: ds, xs, d, x, 0, h, hd => by
    obtain ⟨y, r, rfl, h1, h2⟩ := h.cons
    simpa using repCons hd h2
  | e :: ds, xs, d, x, n + 1, h, hd => by
    obtain ⟨y, r, rfl, h1, h2⟩ := h.cons
    simpa using repCons h1 (RepL.set n h2 hd)
theorem RepL.rev : ∀ {ds : List D} {xs : List V}, RepL K mg H ds xs → RepL K mg H ds.reverse xs.reverse
  | [], xs, h => by rw [h.nil]; simpa using repNil
  | d :: ds, xs, h => by
    obtain ⟨x, r, rfl, h1, h2⟩ := h.cons
    rw [List.reverse_cons, List.reverse_cons]
    exact (RepL.rev h2).app (repCons h1 repNil)
theorem RepL.ints : ∀ {ns : List Int}, RepL K mg H (ns.map D.int) (ns.map V.int)
  | [] => repNil
  | n :: r => repCons (by unfold Rep; rfl) RepL.ints
theorem rInt {i : Int} : Rep K mg H (.int i) (.int i) := by unfold Rep; rfl
theorem rBl {b : Bool} : Rep K mg H (.bl b) (.bl b) := by unfold Rep; rfl
theorem rStr {x : Str} : Rep K mg H (.str x) (.str x) := by unfold Rep; rfl
theorem rNon : Rep K mg H .non .non := by unfold Rep; rfl
theorem Rep.int {i : Int} {v : V} (h : Rep K mg H (.int i) v) : v = .int i := by unfold Rep at h; exact h
theorem Rep.bl {b : Bool} {v : V} (h : Rep K mg H (.bl b) v) : v = .bl b := by unfold Rep at h; exact h
theorem Rep.str {x : Str} {v : V} (h : Rep K mg H (.str x) v) : v = .str x := by unfold Rep at h; exact h
theorem Rep.non {v : V} (h : Rep K mg H .non v) : v = .non := by unfold Rep at h; exact h
theorem Rep.lst {ds : List D} {v : V} (h : Rep K mg H (.lst ds) v) : ∃ a xs, v = .ref a ∧ H a = some (.lst xs) ∧ RepL K mg H ds xs := by unfold Rep at h; exact h
theorem Rep.tup {ds : List D} {v : V} (h : Rep K mg H (.tup ds) v) : ∃ a xs, v = .ref a ∧ SqT K H a xs ∧ RepL K mg H ds xs := by unfold Rep at h; exact h
theorem Rep.scr {ns : List Int} {v : V} (h : Rep K mg H (.scr ns) v) : ∃ a, v = .ref a ∧ SqL K H a (ns.map V.int) := by unfold Rep at h; exact h
theorem Rep.ofLst {ds : List D} {a : Addr} {xs : List V} (h : H a = some (.lst xs)) (r : RepL K mg H ds xs) : Rep K mg H (.lst ds) (.ref a) := by unfold Rep; exact ⟨a, xs, rfl, h, r⟩
theorem Rep.ofTup {ds : List D} {a : Addr} {xs : List V} (h : H a = some (.tup xs)) (r : RepL K mg H ds xs) : Rep K mg H (.tup ds) (.ref a) := by unfold Rep; exact ⟨a, xs, rfl, .inl (.inl h), r⟩
end
/-! ### what a piece of the program comes to -/
inductive R (ε α : Type) where
  | ok (a : α)
  | er (c : Str) (fs : List (Str × D)) (e : ε)
  | no
def R.bind {ε α β : Type} (x : R ε α) (f : α → R ε β) : R ε β := match x with
  | .ok a => f a
  | .er c fs e => .er c fs e
  | .no => .no
@[simp] theorem R.bind_ok {ε α β : Type} (a : α) (f : α → R ε β) : R.bind (.ok a) f = f a := rfl
@[simp] theorem R.bind_er {ε α β : Type} (c : Str) (fs : List (Str × D)) (e : ε) (f : α → R ε β) : R.bind (.er c fs e) f = .er c fs e := rfl
@[simp] theorem R.bind_no {ε α β : Type} (f : α → R ε β) : R.bind (.no) f = .no := rfl
/-- a slot: what stands; what the def owns; what it has borrowed -/
inductive Sl where
  | frz (d : D)
  | own (d : D)
  | bor (d : D)
  | exn (c : Str)
@[reducible] def Sl.mut : Sl → Bool
  | .frz _ => false
  | .exn _ => false
  | _ => true
@[reducible] def Sl.val : Sl → Option D
  | .frz d => some d
  | .own d => some d
  | .bor d => some d
  | .exn _ => none
@[reducible] def Sl.d : Sl → D
  | .frz d => d
  | .own d => d
  | .bor d => d
  | .exn _ => .non
@[reducible] def Sl.put : Sl → D → Sl
  | .frz _, d => .frz d
  | .own _, d => .own d
  | .bor _, d => .bor d
  | .exn c, _ => .exn c
abbrev DEnv := List (Option Sl)
structure Cd where
  K : PySem.W.Frag
  mg : Str → Option Value
  F0 : Hp
  H0 : Hp
  B : Addr → Prop
  W : WX
  ex : Addr := 0
  exc : Str := ""
  rz : Bool := false
def Own (K : PySem.W.Frag) (mg : Str → Option Value) (F H : Hp) : D → Addr → Prop
  | .lst ds, p => ∃ xs, H p = some (.lst xs) ∧ RepL K mg F ds xs
  | .dK ks ds, p => ∃ xs, H p = some (.dK (ks.zip xs)) ∧ ks.length = ds.length ∧ RepL K mg F ds xs
  | .dT ks ds, p => ∃ xs, H p = some (.dT (ks.zip xs)) ∧ ks.length = ds.length ∧ RepL K mg F ds xs
  | .obj c ks ds, p => ∃ dx xs, H p = some (.ins (clsA mg c) dx (ks.zip xs)) ∧ ks.length = ds.length ∧ RepL K mg F ds xs
  | _, _ => False
def SlOk (C : Cd) (F H : Hp) : Sl → V → Prop
  | .frz d, v => Rep C.K C.mg F d v
  | .own d, v => ∃ p, v = .ref p ∧ F p = none ∧ C.H0 p = none ∧ Own C.K C.mg F H d p
  | .bor d, v => ∃ p, v = .ref p ∧ F p = none ∧ C.B p ∧ Own C.K C.mg F H d p
  | .exn c, v => v = .ref C.ex ∧ c = C.exc
structure In (C : Cd) (F H : Hp) (σ : L2.St) (env : DEnv) : Prop where
  f0 : Same C.F0 F
  fh : Same F H
  fr : ∀ a o, C.H0 a = some o → ¬ C.B a → H a = some o
  nf : ∀ a o, F a = some o → C.F0 a = some o ∨ C.H0 a = none
  len : σ.length = env.length
  sl : ∀ (i : Nat) (s : Sl), env[i]? = some (some s) → ∃ v, σ[i]? = some (some v) ∧ SlOk C F H s v
  ds : ∀ (i j : Nat) (s t : Sl) (p : Addr), env[i]? = some (some s) → env[j]? = some (some t) → s.mut = true → t.mut = true → σ[i]? = some (some (.ref p)) → σ[j]? = some (some (.ref p)) → i = j
  bs : ∀ p, C.B p → H p ≠ none
section
variable {C : Cd} {F H F' H' : Hp} {σ : L2.St} {env : DEnv}
theorem Own.some {K : PySem.W.Frag} {mg : Str → Option Value} {d : D} {p : Addr} (h : Own K mg F H d p) : ∃ o, H p = some o := by
  cases d <;> first | exact h.elim | (obtain ⟨xs, h, _⟩ := h; exact ⟨_, h⟩) | (obtain ⟨dx, xs, h, _⟩ := h; exact ⟨_, h⟩)
theorem Own.mono {d : D} {p : Addr} (h : Own C.K C.mg F H d p) (sf : Same F F') (sh : ∀ o, H p = .some o → H' p = .some o) : Own C.K C.mg F' H' d p := by
  cases d <;> first
    | exact h.elim
    | (obtain ⟨xs, h1, h2⟩ := h; exact ⟨xs, sh _ h1, h2.mono sf⟩)
    | (obtain ⟨xs, h1, h0, h2⟩ := h; exact ⟨xs, sh _ h1, h0, h2.mono sf⟩)
    | (obtain ⟨dx, xs, h1, h0, h2⟩ := h; exact ⟨dx, xs, sh _ h1, h0, h2.mono sf⟩)
theorem In.none (I : In C F H σ env) {p : Addr} (n : H p = .none) : F p = .none := by
  cases e : F p with
  | none => rfl
  | some o => rw [I.fh _ _ e] at n; cases n
theorem In.none0 (I : In C F H σ env) {p : Addr} (n : H p = .none) : C.H0 p = .none := by
  cases e : C.H0 p with
  | none => rfl
  | some o =>
    by_cases hb : C.B p
    · exact absurd n (I.bs p hb)
    · rw [I.fr _ _ e hb] at n; cases n
/-- a new object that is frozen at once -/
theorem In.alloc (I : In C F H σ env) {p : Addr} {o : HO} (n : H p = .none) : In C (upd F p o) (upd H p o) σ env := by
  have nF := I.none n
  have n0 := I.none0 n
  have sF : Same F (upd F p o) := fun b x e => by rw [upd_ne (ne_of_none e nF)]; exact e
  refine ⟨I.f0.trans sF, fun a x h => ?_, fun a x h hb => ?_, fun a x h => ?_, I.len, fun i s h => ?_, I.ds, fun q hq => ?_⟩
  · by_cases e : a = p
    · subst e; rw [upd_same] at h ⊢; exact h
    · rw [upd_ne e] at h ⊢; exact I.fh _ _ h
  · have ne : a ≠ p := fun z => by rw [z, n0] at h; cases h
    rw [upd_ne ne]; exact I.fr _ _ h hb
  · by_cases e : a = p
    · subst e; exact .inr n0
    · rw [upd_ne e] at h; exact I.nf _ _ h
  · obtain ⟨v, hv, hs⟩ := I.sl i s h
    refine ⟨v, hv, ?_⟩
    cases s with
    | frz d => exact Rep.mono sF hs
    | exn c => exact hs
    | own d =>
      obtain ⟨q, e, h1, h2, h3⟩ := hs
      obtain ⟨o', h4⟩ := h3.some
      have ne : q ≠ p := ne_of_none h4 n
      exact ⟨q, e, by rw [upd_ne ne]; exact h1, h2, h3.mono sF fun x hx => by rw [upd_ne ne]; exact hx⟩
    | bor d =>
      obtain ⟨q, e, h1, h2, h3⟩ := hs
      obtain ⟨o', h4⟩ := h3.some
      have ne : q ≠ p := ne_of_none h4 n
      exact ⟨q, e, by rw [upd_ne ne]; exact h1, h2, h3.mono sF fun x hx => by rw [upd_ne ne]; exact hx⟩
  · have := I.bs q hq
    have ne : q ≠ p := fun z => this (z ▸ n)
    rw [upd_ne ne]; exact this
theorem In.same (I : In C F H σ env) {p : Addr} {o : HO} (n : H p = .none) : Same F (upd F p o) := fun b x e => by rw [upd_ne (ne_of_none e (I.none n))]; exact e
/-- a new object that nobody has frozen -/
theorem In.fresh (I : In C F H σ env) {p : Addr} {o : HO} (n : H p = .none) : In C F (upd H p o) σ env := by
  have n0 := I.none0 n
  refine ⟨I.f0, fun a x h => ?_, fun a x h hb => ?_, I.nf, I.len, fun i s h => ?_, I.ds, fun q hq => ?_⟩
  · rw [upd_ne (ne_of_none (I.fh _ _ h) n)]; exact I.fh _ _ h
  · have ne : a ≠ p := fun z => by rw [z, n0] at h; cases h
    rw [upd_ne ne]; exact I.fr _ _ h hb
  · obtain ⟨v, hv, hs⟩ := I.sl i s h
    refine ⟨v, hv, ?_⟩
    cases s with
    | frz d => exact hs
    | exn c => exact hs
    | own d =>
      obtain ⟨q, e, h1, h2, h3⟩ := hs
      obtain ⟨o', h4⟩ := h3.some
      exact ⟨q, e, h1, h2, h3.mono (.refl _) fun x hx => by rw [upd_ne (ne_of_none h4 n)]; exact hx⟩
    | bor d =>
      obtain ⟨q, e, h1, h2, h3⟩ := hs
      obtain ⟨o', h4⟩ := h3.some
      exact ⟨q, e, h1, h2, h3.mono (.refl _) fun x hx => by rw [upd_ne (ne_of_none h4 n)]; exact hx⟩
  · have := I.bs q hq
    have ne : q ≠ p := fun z => this (z ▸ n)
    rw [upd_ne ne]; exact this
/-- a value that a def may give away: new, its own -/
structure Fresh (C : Cd) (F H : Hp) (env : DEnv) (σ : L2.St) (d : D) (p : Addr) : Prop where
  f : F p = none
  h0 : C.H0 p = none
  o : Own C.K C.mg F H d p
  ne : ∀ (i : Nat) (s : Sl), env[i]? = some (some s) → s.mut = true → σ[i]? ≠ some (some (.ref p))
/-- any object that F does not know may be frozen, if no slot owns it -/
theorem In.freeze (I : In C F H σ env) {p : Addr} {o : HO} (hp : H p = some o) (n0 : C.H0 p = .none) (nF : F p = .none) (ne : ∀ (i : Nat) (s : Sl), env[i]? = some (some s) → s.mut = true → σ[i]? ≠ some (some (.ref p))) : In C (upd F p o) H σ env := by
  have sF : Same F (upd F p o) := fun b x e => by rw [upd_ne (ne_of_none e nF)]; exact e
  refine ⟨I.f0.trans sF, fun a x h => ?_, I.fr, fun a x h => ?_, I.len, fun i s h => ?_, I.ds, I.bs⟩
  · by_cases e : a = p
    · subst e; rw [upd_same] at h; cases h; exact hp
    · rw [upd_ne e] at h; exact I.fh _ _ h
  · by_cases e : a = p
    · subst e; exact .inr n0
    · rw [upd_ne e] at h; exact I.nf _ _ h
  · obtain ⟨v, hv, hs⟩ := I.sl i s h
    refine ⟨v, hv, ?_⟩
    cases s with
    | frz d => exact Rep.mono sF hs
    | exn c => exact hs
    | own d =>
      obtain ⟨q, e, h1, h2, h3⟩ := hs
      have nq : q ≠ p := fun z => ne i _ h rfl (by rw [hv, e, z])
      exact ⟨q, e, by rw [upd_ne nq]; exact h1, h2, h3.mono sF fun _ z => z⟩
    | bor d =>
      obtain ⟨q, e, h1, h2, h3⟩ := hs
      have nq : q ≠ p := fun z => ne i _ h rfl (by rw [hv, e, z])
      exact ⟨q, e, by rw [upd_ne nq]; exact h1, h2, h3.mono sF fun _ z => z⟩
theorem Own.rep {d : D} {p : Addr} (h : Own C.K C.mg F H d p) {o : HO} (hp : H p = .some o) (nF : F p = none) : Rep C.K C.mg (upd F p o) d (.ref p) := by
  have sF : Same F (upd F p o) := fun b x e => by rw [upd_ne (ne_of_none e nF)]; exact e
  cases d <;> first
    | exact h.elim
    | (obtain ⟨xs, h1, h2⟩ := h; rw [hp] at h1; cases h1; unfold Rep; exact ⟨p, xs, rfl, upd_same, h2.mono sF⟩)
    | (obtain ⟨xs, h1, h0, h2⟩ := h; rw [hp] at h1; cases h1; unfold Rep; exact ⟨p, xs, rfl, upd_same, h0, h2.mono sF⟩)
    | (obtain ⟨xs, h1, h0, h2⟩ := h; rw [hp] at h1; cases h1; unfold Rep; exact ⟨p, xs, rfl, .inl upd_same, h0, h2.mono sF⟩)
    | (obtain ⟨dx, xs, h1, h0, h2⟩ := h; rw [hp] at h1; cases h1; unfold Rep; exact ⟨p, dx, xs, rfl, upd_same, h0, h2.mono sF⟩)
/-- a slot forgotten -/
theorem In.drop (I : In C F H σ env) (i : Nat) (o : Option V) : In C F H (σ.set i o) (env.set i .none) := by
  refine ⟨I.f0, I.fh, I.fr, I.nf, by rw [List.length_set, List.length_set]; exact I.len, fun j s h => ?_, fun j k s t p hj hk ms mt aj ak => ?_, I.bs⟩
  · by_cases e : i = j
    · subst e
      rw [List.getElem?_set_self' ] at h
      cases q : env[i]? with
      | none => rw [q] at h; cases h
      | some z => rw [q] at h; cases h
    · rw [List.getElem?_set_ne e] at h ⊢
      exact I.sl j s h
  · by_cases e : i = j
    · subst e
      rw [List.getElem?_set_self'] at hj
      cases q : env[i]? with
      | none => rw [q] at hj; cases hj
      | some z => rw [q] at hj; cases hj
    · by_cases e' : i = k
      · subst e'
        rw [List.getElem?_set_self'] at hk
        cases q : env[i]? with
        | none => rw [q] at hk; cases hk
        | some z => rw [q] at hk; cases hk
      · rw [List.getElem?_set_ne e] at hj aj
        rw [List.getElem?_set_ne e'] at hk ak
        exact I.ds j k s t p hj hk ms mt aj ak
theorem set_self {α : Type} {l : List α} {i : Nat} {a x : α} (h : (l.set i a)[i]? = some x) : i < l.length ∧ x = a := by
  have hl : i < (l.set i a).length := (List.getElem?_eq_some_iff.mp h).1
  rw [List.length_set] at hl
  rw [List.getElem?_set_self hl] at h
  exact ⟨hl, (Option.some.inj h).symm⟩
/-- a slot set to what stands -/
theorem In.put (I : In C F H σ env) {i : Nat} {d : D} {v : V} (h : Rep C.K C.mg F d v) : In C F H (σ.set i (some v)) (env.set i (some (.frz d))) := by
  refine ⟨I.f0, I.fh, I.fr, I.nf, by rw [List.length_set, List.length_set]; exact I.len, fun j s hj => ?_, fun j k s t p hj hk ms mt aj ak => ?_, I.bs⟩
  · by_cases e : i = j
    · subst e
      obtain ⟨hl, es⟩ := set_self hj
      cases es
      refine ⟨v, ?_, h⟩
      rw [List.getElem?_set_self (by rw [I.len]; exact hl)]
    · rw [List.getElem?_set_ne e] at hj ⊢
      exact I.sl j s hj
  · by_cases e : i = j
    · subst e
      obtain ⟨hl, es⟩ := set_self hj
      cases es
      cases ms
    · by_cases e' : i = k
      · subst e'
        obtain ⟨hl, es⟩ := set_self hk
        cases es
        cases mt
      · rw [List.getElem?_set_ne e] at hj aj
        rw [List.getElem?_set_ne e'] at hk ak
        exact I.ds j k s t p hj hk ms mt aj ak
/-- a slot set to what is new -/
theorem In.putOwn (I : In C F H σ env) {i : Nat} {d : D} {p : Addr} (h : Fresh C F H env σ d p) : In C F H (σ.set i (some (.ref p))) (env.set i (some (.own d))) := by
  refine ⟨I.f0, I.fh, I.fr, I.nf, by rw [List.length_set, List.length_set]; exact I.len, fun j s hj => ?_, fun j k s t q hj hk ms mt aj ak => ?_, I.bs⟩
  · by_cases e : i = j
    · subst e
      obtain ⟨hl, es⟩ := set_self hj
      cases es
      refine ⟨.ref p, ?_, p, rfl, h.f, h.h0, h.o⟩
      rw [List.getElem?_set_self (by rw [I.len]; exact hl)]
    · rw [List.getElem?_set_ne e] at hj ⊢
      exact I.sl j s hj
  · by_cases e : i = j
    · by_cases e' : i = k
      · exact e.symm.trans e'
      · subst e
        obtain ⟨hl, es⟩ := set_self hj
        rw [List.getElem?_set_self (by rw [I.len]; exact hl)] at aj
        cases aj
        rw [List.getElem?_set_ne e'] at hk ak
        exact absurd ak (h.ne k t hk mt)
    · by_cases e' : i = k
      · subst e'
        obtain ⟨hl, es⟩ := set_self hk
        rw [List.getElem?_set_self (by rw [I.len]; exact hl)] at ak
        cases ak
        rw [List.getElem?_set_ne e] at hj aj
        exact absurd aj (h.ne j s hj ms)
      · rw [List.getElem?_set_ne e] at hj aj
        rw [List.getElem?_set_ne e'] at hk ak
        exact I.ds j k s t q hj hk ms mt aj ak
/-- what a slot owns has changed -/
theorem In.change (I : In C F H σ env) {i : Nat} {s : Sl} {p : Addr} {o : HO} {d : D} (hi : env[i]? = some (some s)) (ms : s.mut = true) (hv : σ[i]? = some (some (.ref p))) (ho : Own C.K C.mg F (upd H p o) d p) : In C F (upd H p o) σ (env.set i (some (s.put d))) := by
  have hp : F p = .none ∧ (C.H0 p = .none ∨ C.B p) ∧ ∃ o', H p = some o' := by
    obtain ⟨v, e, hs⟩ := I.sl i s hi
    rw [hv] at e
    cases e
    cases s with
    | frz d => cases ms
    | exn c => cases ms
    | own d =>
      obtain ⟨q, e, h1, h2, h3⟩ := hs
      cases e
      exact ⟨h1, .inl h2, h3.some⟩
    | bor d =>
      obtain ⟨q, e, h1, h2, h3⟩ := hs
      cases e
      exact ⟨h1, .inr h2, h3.some⟩
  obtain ⟨nF, n0, o', hp⟩ := hp
  refine ⟨I.f0, fun a x h => ?_, fun a x h hb => ?_, I.nf, by rw [List.length_set]; exact I.len, fun j t hj => ?_, fun j k t u q hj hk ms' mt aj ak => ?_, fun q hq => ?_⟩
  · rw [upd_ne (ne_of_none h nF)]; exact I.fh _ _ h
  · have ne : a ≠ p := fun z => by
      rcases n0 with n0 | n0
      · rw [z, n0] at h; cases h
      · exact hb (z ▸ n0)
    rw [upd_ne ne]; exact I.fr _ _ h hb
  · by_cases e : i = j
    · subst e
      obtain ⟨hl, es⟩ := set_self hj
      cases es
      refine ⟨.ref p, hv, ?_⟩
      obtain ⟨v, e, hs⟩ := I.sl i s hi
      rw [hv] at e
      cases e
      cases s with
      | frz d => cases ms
      | exn c => cases ms
      | own d =>
        obtain ⟨q, e, h1, h2, h3⟩ := hs
        cases e
        exact ⟨p, rfl, nF, h2, ho⟩
      | bor d =>
        obtain ⟨q, e, h1, h2, h3⟩ := hs
        cases e
        exact ⟨p, rfl, nF, h2, ho⟩
    · rw [List.getElem?_set_ne e] at hj
      obtain ⟨v, ev, hs⟩ := I.sl j t hj
      refine ⟨v, ev, ?_⟩
      cases t with
      | frz d => exact hs
      | exn c => exact hs
      | own d =>
        obtain ⟨q, e1, h1, h2, h3⟩ := hs
        have nq : q ≠ p := fun z => e (I.ds i j s _ p hi hj ms rfl hv (by rw [ev, e1, z]))
        exact ⟨q, e1, h1, h2, h3.mono (.refl _) fun x hx => by rw [upd_ne nq]; exact hx⟩
      | bor d =>
        obtain ⟨q, e1, h1, h2, h3⟩ := hs
        have nq : q ≠ p := fun z => e (I.ds i j s _ p hi hj ms rfl hv (by rw [ev, e1, z]))
        exact ⟨q, e1, h1, h2, h3.mono (.refl _) fun x hx => by rw [upd_ne nq]; exact hx⟩
  · have mo : ∀ {j : Nat} {t : Sl}, (env.set i (some (s.put d)))[j]? = some (some t) → t.mut = true → ∃ t', env[j]? = some (some t') ∧ t'.mut = true := by
      intro j t hj mt
      by_cases e : i = j
      · subst e
        exact ⟨s, hi, ms⟩
      · rw [List.getElem?_set_ne e] at hj
        exact ⟨t, hj, mt⟩
    obtain ⟨t', h1, h2⟩ := mo hj ms'
    obtain ⟨u', h3, h4⟩ := mo hk mt
    exact I.ds j k t' u' q h1 h3 h2 h4 aj ak
  · by_cases e : q = p
    · rw [e, upd_same]; exact fun z => nomatch z
    · rw [upd_ne e]; exact I.bs q hq
end
structure Ext (F H F' H' : Hp) : Prop where
  ff : Same F F'
  fh : Same F' H'
  hh : Same H H'
  nf : ∀ a o, F' a = some o → F a = some o ∨ H a = none
section
variable {C : Cd} {F H F' H' : Hp} {σ : L2.St} {env : DEnv}
theorem Own.keep {d : D} {p : Addr} {K : PySem.W.Frag} {mg : Str → Option Value} (h : Own K mg F H d p) (sf : Same F F') (sh : ∀ o, H p = .some o → H' p = .some o) : Own K mg F' H' d p := by
  cases d <;> first
    | exact h.elim
    | (obtain ⟨xs, h1, h2⟩ := h; exact ⟨xs, sh _ h1, h2.mono sf⟩)
    | (obtain ⟨xs, h1, h0, h2⟩ := h; exact ⟨xs, sh _ h1, h0, h2.mono sf⟩)
    | (obtain ⟨dx, xs, h1, h0, h2⟩ := h; exact ⟨dx, xs, sh _ h1, h0, h2.mono sf⟩)
theorem In.call (I : In C F H σ env) (x : Ext F H F' H') : In C F' H' σ env := by
  have free : ∀ q o, F q = Option.none → H q = some o → F' q = Option.none := fun q o h1 h2 => by
    cases e : F' q with
    | none => rfl
    | some z =>
      rcases x.nf q z e with h | h
      · rw [h1] at h; cases h
      · rw [h2] at h; cases h
  refine ⟨I.f0.trans x.ff, x.fh, fun a o h hb => x.hh _ _ (I.fr a o h hb), fun a o h => ?_, I.len, fun i s h => ?_, I.ds, fun p hp z => ?_⟩
  · rcases x.nf a o h with h | h
    · exact I.nf a o h
    · exact .inr (I.none0 h)
  · obtain ⟨v, hv, hs⟩ := I.sl i s h
    refine ⟨v, hv, ?_⟩
    cases s with
    | frz d => exact Rep.mono x.ff hs
    | exn c => exact hs
    | own d =>
      obtain ⟨q, e, h1, h2, h3⟩ := hs
      obtain ⟨o, ho⟩ := h3.some
      exact ⟨q, e, free q o h1 ho, h2, h3.keep x.ff fun o h => x.hh _ _ h⟩
    | bor d =>
      obtain ⟨q, e, h1, h2, h3⟩ := hs
      obtain ⟨o, ho⟩ := h3.some
      exact ⟨q, e, free q o h1 ho, h2, h3.keep x.ff fun o h => x.hh _ _ h⟩
  · cases e : H p with
    | none => exact I.bs p hp e
    | some o => rw [x.hh _ _ e] at z; cases z
theorem Ext.refl {F H : Hp} (s : Same F H) : Ext F H F H := ⟨.refl _, s, .refl _, fun _ _ h => .inl h⟩
theorem In.extAlloc (I : In C F H σ env) {p : Addr} {o : HO} (n : H p = Option.none) : Ext F H (upd F p o) (upd H p o) := ⟨I.same n, (I.alloc n).fh, fun b x e => by rw [upd_ne (ne_of_none e n)]; exact e, fun a x h => by
  by_cases e : a = p
  · subst e; exact .inr n
  · rw [upd_ne e] at h; exact .inl h⟩
end
end Dd

namespace Dd
open PySem PySem.Spec PyProof.Rows L2
/-! ### readings over data -/
abbrev DE := DEnv → R DEnv (Sl × DEnv)
def ErOk (C : Cd) (F : Hp) (fs : List (Str × D)) (x : Option Addr) : Prop := match fs with
  | [] => x = none
  | f :: r => ∃ a xs, x = some a ∧ F a = some (.xd (((f :: r).map (·.1)).zip xs)) ∧ RepL C.K C.mg F ((f :: r).map (·.2)) xs
def Fin (C : Cd) (F : Hp) (σ : L2.St) {α : Type} (r : R DEnv (α × DEnv)) (P : α → DEnv → Hp → Hp → Prop) : Prop :=
  match r with
  | .ok p => ∀ F' H', In C F' H' σ p.2 → Same F F' → P p.1 p.2 F' H'
  | .er c fs e => C.rz = true ∧ ∀ x F' H', In C F' H' σ e → Same F F' → ErOk C F' fs x → C.W (.ref (clsA C.mg c)) x σ H'
  | .no => False
section
variable {C : Cd} {F F1 H : Hp} {σ : L2.St} {α β : Type} {r : R DEnv (α × DEnv)} {P P' : α → DEnv → Hp → Hp → Prop}
theorem Fin.le (s : Same F F1) (h : Fin C F σ r P) : Fin C F1 σ r P := by
  cases r with
  | ok p => exact fun F' H' I s' => h F' H' I (s.trans s')
  | er c fs e => exact ⟨h.1, fun x F' H' I s' k => h.2 x F' H' I (s.trans s') k⟩
  | no => exact h
theorem Fin.imp (h : Fin C F σ r P) (k : ∀ a e F' H', In C F' H' σ e → Same F F' → P a e F' H' → P' a e F' H') : Fin C F σ r P' := by
  cases r with
  | ok p => exact fun F' H' I s => k _ _ _ _ I s (h F' H' I s)
  | er c fs e => exact h
  | no => exact h
theorem Fin.bnd {k : α × DEnv → R DEnv (β × DEnv)} {P : β → DEnv → Hp → Hp → Prop} (h : Fin C F σ (r.bind k) P) : Fin C F σ r fun a e F' _ => Fin C F' σ (k (a, e)) P := by
  cases r with
  | ok p => exact fun F' H' I s => Fin.le s h
  | er c fs e => exact h
  | no => exact h
theorem Fin.here {a : α} {e : DEnv} (h : Fin C F σ (.ok (a, e)) P) (I : In C F H σ e) : P a e F H := h F H I (.refl _)
end
def Res (C : Cd) (F H : Hp) (env : DEnv) (σ : L2.St) : Sl → V → Prop
  | .frz d, v => Rep C.K C.mg F d v
  | .own d, v => ∃ p, v = .ref p ∧ Fresh C F H env σ d p
  | .bor _, _ => False
  | .exn _, _ => False
/-- an expression; one whose value is frozen -/
def tD (C : Cd) (f : DE) : TE := fun σ H Q => ∃ F env, In C F H σ env ∧ Fin C F σ (f env) fun s e F' H' => ∀ v, Res C F' H' e σ s v → Q v H'
def tDz (C : Cd) (f : DE) : TE := fun σ H Q => ∃ F env, In C F H σ env ∧ Fin C F σ (f env) fun s _ F' H' => ∀ v, Rep C.K C.mg F' s.d v → Q v H'
theorem PE.weak {X : Cx} {e : Expr} {t t' : TE} (h : PE X e t) (k : ∀ σ H Q, t' σ H Q → t σ H Q) : PE X e t' := ⟨fun pins s σ H Q I w => h.run pins s σ H Q I (k _ _ _ w)⟩
theorem PT.weak {X : Cx} {e : Expr} {t t' : TT} (h : PT X e t) (k : ∀ σ H Q, t' σ H Q → t σ H Q) : PT X e t' := ⟨fun pins s σ H Q I w => h.run pins s σ H Q I (k _ _ _ w)⟩
theorem PW.weak {X : Cx} {e : Expr} {t t' : TT} (h : PW X e t) (k : ∀ σ H Q, t' σ H Q → t σ H Q) : PW X e t' := ⟨fun w pins s σ H Q I z => h.run w pins s σ H Q I (k _ _ _ z)⟩
theorem PTs.weak {X : Cx} {e : List Expr} {t t' : TT} (h : PTs X e t) (k : ∀ σ H Q, t' σ H Q → t σ H Q) : PTs X e t' := ⟨fun pins s σ H Q I w => h.run pins s σ H Q I (k _ _ _ w)⟩
theorem PA.weak {X : Cx} {e : List Expr} {t t' : TA} (h : PA X e t) (k : ∀ σ H Q, t' σ H Q → t σ H Q) : PA X e t' := ⟨fun pos pins s σ H Q I w => h.run pos pins s σ H Q I (k _ _ _ w)⟩
theorem PK.weak {X : Cx} {e : List Keyword} {t t' : TA} (h : PK X e t) (k : ∀ σ H Q, t' σ H Q → t σ H Q) : PK X e t' := ⟨fun pos pins s σ H Q I w => h.run pos pins s σ H Q I (k _ _ _ w)⟩
theorem PS.weak {X : Cx} {e : Stmt} {t t' : TS} (h : PS X e t) (k : ∀ D σ H, t' D σ H → t D σ H) : PS X e t' := ⟨fun pins s σ H D I w => h.run pins s σ H D I (k _ _ _ w)⟩
theorem PSs.weak {X : Cx} {e : List Stmt} {t t' : TS} (h : PSs X e t) (k : ∀ D σ H, t' D σ H → t D σ H) : PSs X e t' := ⟨fun pins s σ H D I w => h.run pins s σ H D I (k _ _ _ w)⟩
theorem PG.weak {X : Cx} {e : Expr} {t t' : TG} (h : PG X e t) (k : ∀ v σ H Q, t' v σ H Q → t v σ H Q) : PG X e t' := ⟨fun pins s σ H v u Q I r w => h.run pins s σ H v u Q I r (k _ _ _ _ w)⟩
theorem PGs.weak {X : Cx} {e : List Expr} {t t' : TGs} (h : PGs X e t) (k : ∀ v σ H Q, t' v σ H Q → t v σ H Q) : PGs X e t' := ⟨fun pins s σ H v u Q I r w => h.run pins s σ H v u Q I r (k _ _ _ _ w)⟩
theorem PI.weak {X : Cx} {g e : Expr} {t t' : TI} (h : PI X g e t) (k : ∀ σ H Q, t' σ H Q → t σ H Q) : PI X g e t' := ⟨fun pins s σ H Q I w => h.run pins s σ H Q I (k _ _ _ w)⟩
theorem PO.weak {X : Cx} {e : Option Expr} {t t' : TO} (h : PO X e t) (k : ∀ σ H Q, t' σ H Q → t σ H Q) : PO X e t' := ⟨fun pins s σ H Q I w => h.run pins s σ H Q I (k _ _ _ w)⟩
structure Fit (X : Cx) (C : Cd) : Prop where
  k : X.K = C.K
  m : X.mg = C.mg
section
variable {X : Cx} {C : Cd} {e a b c : Expr} {es : List Expr} {f fa fb fc : DE} {pos : Pos}
theorem Fin.froz {σ : L2.St} {F : Hp} {r : R DEnv (Sl × DEnv)} {Q : VK} (h : Fin C F σ r fun s _ F' H' => ∀ v, Rep C.K C.mg F' s.d v → Q v H') : Fin C F σ r fun s e F' H' => ∀ v, Res C F' H' e σ s v → Q v H' := by
  cases r with
  | no => exact h
  | er c fs e => exact h
  | ok p =>
    obtain ⟨s, e⟩ := p
    intro F' H' I sm v r
    cases s with
    | frz d => exact h F' H' I sm v r
    | exn c => exact r.elim
    | own d =>
      obtain ⟨p, rfl, fr⟩ := r
      obtain ⟨o, ho⟩ := fr.o.some
      have sF : Same F' (upd F' p o) := fun b x e => by rw [upd_ne (ne_of_none e fr.f)]; exact e
      exact h _ H' (I.freeze ho fr.h0 fr.f fr.ne) (sm.trans sF) (.ref p) (fr.o.rep ho fr.f)
    | bor d => exact r.elim
theorem tz_t {σ : L2.St} {H : Hp} {Q : VK} : tDz C f σ H Q → tD C f σ H Q := fun ⟨F, env, I, h⟩ => ⟨F, env, I, h.froz⟩
theorem qz (h : PE X e (tD C f)) : PE X e (tDz C f) := PE.weak h fun σ H Q ⟨F, env, I, h⟩ => ⟨F, env, I, h.froz⟩
theorem Fin.val {F H : Hp} {σ : L2.St} {d : D} {e : DEnv} {v : V} {Q : VK} (h : Fin C F σ (.ok (.frz d, e)) fun s e F' H' => ∀ v, Res C F' H' e σ s v → Q v H') (I : In C F H σ e) (r : Rep C.K C.mg F d v) : Q v H := h F H I (.refl _) v r
/-! ### constants and names -/
def conD (d : D) : DE := fun env => .ok (.frz d, env)
theorem qe_con {d : D} {v : V} (r : ∀ F, Rep C.K C.mg F d v) (h : PE X e (tC v)) : PE X e (tD C (conD d)) :=
  PE.weak h fun σ H Q ⟨F, env, I, h⟩ => h.here I v (r F)
theorem qe_int {i : Int} {j pos} : PE X (.Constant (.int i) j pos) (tD C (conD (.int i))) := qe_con (fun _ => rInt) pe_int
theorem qe_bl {i : Bool} {j pos} : PE X (.Constant (.bool i) j pos) (tD C (conD (.bl i))) := qe_con (fun _ => rBl) pe_bl
theorem qe_str {i : Str} {j pos} : PE X (.Constant (.str i) j pos) (tD C (conD (.str i))) := qe_con (fun _ => rStr) pe_str
theorem qe_non {j pos} : PE X (.Constant .none j pos) (tD C (conD .non)) := qe_con (fun _ => rNon) pe_non
def nameD (i : Nat) : DE := fun env => match env[i]? with
  | some (some (.frz d)) => .ok (.frz d, env)
  | some (some (.own d)) => .ok (.frz d, env.set i (some (.frz d)))
  | _ => .no
theorem In.frzSlot {F H : Hp} {σ : L2.St} {env : DEnv} (I : In C F H σ env) {i : Nat} {d : D} (hi : env[i]? = some (some (.own d))) : ∃ v F', σ[i]? = some (some v) ∧ In C F' H σ (env.set i (some (.frz d))) ∧ Same F F' ∧ Rep C.K C.mg F' d v := by
  obtain ⟨v, hv, p, rfl, h1, h2, h3⟩ := I.sl i _ hi
  obtain ⟨o, ho⟩ := h3.some
  have I1 : In C F H σ (env.set i .none) := by
    have q := I.drop i (some (.ref p))
    have e : σ.set i (some (.ref p)) = σ := by
      apply List.ext_getElem?
      intro j
      by_cases e : i = j
      · subst e
        rw [List.getElem?_set_self (List.getElem?_eq_some_iff.mp hv).1, hv]
      · rw [List.getElem?_set_ne e]
    rw [e] at q
    exact q
  have ne : ∀ (j : Nat) (s : Sl), (env.set i .none)[j]? = some (some s) → s.mut = true → σ[j]? ≠ some (some (.ref p)) := by
    intro j s hj ms hz
    by_cases e : i = j
    · subst e
      obtain ⟨_, es⟩ := set_self hj
      cases es
    · rw [List.getElem?_set_ne e] at hj
      exact e (I.ds i j _ s p hi hj rfl ms hv hz)
  have I2 := I1.freeze ho h2 h1 ne
  have r := h3.rep ho h1
  have I3 := I2.put (i := i) r
  have e : σ.set i (some (.ref p)) = σ := by
    apply List.ext_getElem?
    intro j
    by_cases e : i = j
    · subst e
      rw [List.getElem?_set_self (List.getElem?_eq_some_iff.mp hv).1, hv]
    · rw [List.getElem?_set_ne e]
  rw [e, List.set_set] at I3
  exact ⟨_, _, hv, I3, fun b x e => by rw [upd_ne (ne_of_none e h1)]; exact e, r⟩
theorem qe_name {i : Nat} (h : PE X e (tVar i)) : PE X e (tD C (nameD i)) := PE.weak h fun σ H Q ⟨F, env, I, h⟩ => by
  unfold nameD at h
  cases e : env[i]? with
  | none => rw [e] at h; exact h.elim
  | some o =>
    rw [e] at h
    cases o with
    | none => exact h.elim
    | some s =>
      cases s with
      | frz d =>
        obtain ⟨v, hv, r⟩ := I.sl i _ e
        exact ⟨v, hv, h.here I v r⟩
      | own d =>
        obtain ⟨v, F', hv, I', s, r⟩ := I.frzSlot e
        exact ⟨v, hv, h F' H I' s v r⟩
      | bor d => exact h.elim
      | exn c => exact h.elim
/-! ### operations on data -/
def lift1 (g : D → Option Sl) (fa : DE) : DE := fun env => (fa env).bind fun p => match g p.1.d with
  | some s => .ok (s, p.2)
  | none => .no
def lift2 (g : D → D → Option Sl) (fa fb : DE) : DE := fun env => (fa env).bind fun p => (fb p.2).bind fun q => match g p.1.d q.1.d with
  | some s => .ok (s, q.2)
  | none => .no
def UnOk (C : Cd) (r : V → Hp → VK → Prop) (g : D → Option Sl) : Prop := ∀ F H σ env x d s (Q : VK), In C F H σ env → Rep C.K C.mg F d x → g d = some s →
  (∀ v F' H', In C F' H' σ env → Same F F' → Res C F' H' env σ s v → Q v H') → r x H Q
def OpOk (C : Cd) (r : R2) (g : D → D → Option Sl) : Prop := ∀ F H σ env x y d e s (Q : VK), In C F H σ env → Rep C.K C.mg F d x → Rep C.K C.mg F e y → g d e = some s →
  (∀ v F' H', In C F' H' σ env → Same F F' → Res C F' H' env σ s v → Q v H') → r x y H Q
theorem t_un {r : V → Hp → VK → Prop} {g : D → Option Sl} (ok : UnOk C r g) {σ : L2.St} {H : Hp} {Q : VK} : tD C (lift1 g fa) σ H Q → tUn r (tDz C fa) σ H Q := fun ⟨F, env, I, h⟩ =>
  ⟨F, env, I, (Fin.bnd h).imp fun s e F1 H1 I1 s1 h1 x rx => by
    cases eg : g s.d with
    | none => simp only [eg] at h1; exact h1.elim
    | some z => simp only [eg] at h1; exact ok F1 H1 σ e x _ z Q I1 rx eg fun v F' H' I' s' r' => h1 F' H' I' s' v r'⟩
theorem t_op {r : R2} {g : D → D → Option Sl} (ok : OpOk C r g) {σ : L2.St} {H : Hp} {Q : VK} : tD C (lift2 g fa fb) σ H Q → tOp r (tDz C fa) (tDz C fb) σ H Q := fun ⟨F, env, I, h⟩ =>
  ⟨F, env, I, (Fin.bnd h).imp fun s e F1 H1 I1 s1 h1 x rx => ⟨F1, e, I1, (Fin.bnd h1).imp fun s2 e2 F2 H2 I2 s2' h2 y ry => by
    cases eg : g s.d s2.d with
    | none => simp only [eg] at h2; exact h2.elim
    | some z => simp only [eg] at h2; exact ok F2 H2 σ e2 x y _ _ z Q I2 (rx.mono s2') ry eg fun v F' H' I' s' r' => h2 F' H' I' s' v r'⟩⟩
theorem qe_op {op : Operator} {r : R2} {g : D → D → Option Sl} (ho : OpR X (binaryOp op) r) (ok : OpOk C r g) (ha : PE X a (tD C fa)) (hb : PE X b (tD C fb)) : PE X (.BinOp a op b pos) (tD C (lift2 g fa fb)) :=
  PE.weak (pe_op ho (qz ha) (qz hb)) fun _ _ _ h => t_op ok h
theorem qe_un {op : UnaryOp} {r : V → Hp → VK → Prop} {g : D → Option Sl} (ho : UnR X (unaryOp op) r) (ok : UnOk C r g) (ha : PE X a (tD C fa)) : PE X (.UnaryOp op a pos) (tD C (lift1 g fa)) :=
  PE.weak (pe_un ho (qz ha)) fun _ _ _ h => t_un ok h
theorem qe_cmp {op : CmpOp} {r : R2} {g : D → D → Option Sl} (ho : OpR X (compareOp op) r) (ok : OpOk C r g) (ha : PE X a (tD C fa)) (hb : PE X b (tD C fb)) (hm : behindInMarks op b = false) : PE X (.Compare a [op] [b] pos) (tD C (lift2 g fa fb)) :=
  PE.weak (pe_cmpR ho (qz ha) (qz hb) hm) fun _ _ _ h => t_op ok h
theorem OpR.or {f : Value → Value → Sem Value} {r r' : R2} (h : OpR X f r) (h' : OpR X f r') : OpR X f (fun x y H Q => r x y H Q ∨ r' x y H Q) := fun pins s σ H x y v u Q I rx ry q =>
  q.elim (h pins s σ H x y v u Q I rx ry) (h' pins s σ H x y v u Q I rx ry)
/-! ### tests -/
abbrev DT := DEnv → R DEnv (Bool × DEnv)
def tDT (C : Cd) (f : DT) : TT := fun σ H Q => ∃ F env, In C F H σ env ∧ Fin C F σ (f env) fun b _ _ H' => Q b H'
def boolT (f : DE) : DT := fun env => (f env).bind fun p => match p.1.d with
  | .bl b => .ok (b, p.2)
  | _ => .no
theorem t_bool {σ : L2.St} {H : Hp} {Q : Bool → Hp → Prop} {ft : DE} : tDT C (boolT ft) σ H Q → tDz C ft σ H (fun x H' => ∃ k, x = .bl k ∧ Q k H') := fun ⟨F, env, I, h⟩ =>
  ⟨F, env, I, (Fin.bnd h).imp fun s e F1 H1 I1 s1 h1 x rx => by
    cases ed : s.d with
    | bl b => simp only [ed] at h1 rx; exact ⟨b, rx.bl, h1.here I1⟩
    | _ => simp only [ed] at h1; exact h1.elim⟩
theorem qt_val (h : PE X e (tD C f)) (he : ∀ whole, isTrue e X.env whole = (do let v ← whole; standAt e.pos; holding [v] (truthy v)) := by intro _; rfl) : PT X e (tDT C (boolT f)) :=
  PT.weak (pt_val (qz h) he) fun _ _ _ h => t_bool h
theorem qt_cmp {op : CmpOp} {r : R2} {g : D → D → Option Sl} (ho : OpR X (compareOp op) r) (ok : OpOk C r g) (ha : PE X a (tD C fa)) (hb : PE X b (tD C fb)) (hm : behindInMarks op b = false) : PT X (.Compare a [op] [b] pos) (tDT C (boolT (lift2 g fa fb))) :=
  PT.weak (pt_cmpR ho (qz ha) (qz hb) hm) fun σ H Q h => t_op ok (tz_t (t_bool h))
def andT (f g : DT) : DT := fun env => (f env).bind fun p => match p.1 with
  | true => g p.2
  | false => .ok (false, p.2)
def orT (f g : DT) : DT := fun env => (f env).bind fun p => match p.1 with
  | true => .ok (true, p.2)
  | false => g p.2
def notT (f : DT) : DT := fun env => (f env).bind fun p => .ok (!p.1, p.2)
section
variable {f g : DT} {rest : List Expr}
theorem qw_and1 (h : PT X a (tDT C f)) : PW X (.BoolOp .And [a] pos) (tDT C f) := pw_and1 h
theorem qw_or1 (h : PT X a (tDT C f)) : PW X (.BoolOp .Or [a] pos) (tDT C f) := pw_or1 h
theorem qw_and (h : PT X a (tDT C f)) (h2 : PW X (.BoolOp .And (b :: rest) pos) (tDT C g)) : PW X (.BoolOp .And (a :: b :: rest) pos) (tDT C (andT f g)) :=
  PW.weak (pw_and h h2) fun σ H Q ⟨F, env, I, h⟩ => ⟨F, env, I, (Fin.bnd h).imp fun b e F1 H1 I1 s1 h1 => by
    cases b with
    | true => exact iteT ⟨F1, e, I1, h1⟩
    | false => exact iteF (h1.here I1)⟩
theorem qw_or (h : PT X a (tDT C f)) (h2 : PW X (.BoolOp .Or (b :: rest) pos) (tDT C g)) : PW X (.BoolOp .Or (a :: b :: rest) pos) (tDT C (orT f g)) :=
  PW.weak (pw_or h h2) fun σ H Q ⟨F, env, I, h⟩ => ⟨F, env, I, (Fin.bnd h).imp fun b e F1 H1 I1 s1 h1 => by
    cases b with
    | true => exact iteT (h1.here I1)
    | false => exact iteF ⟨F1, e, I1, h1⟩⟩
theorem qt_not (h : PT X a (tDT C f)) : PT X (.UnaryOp .Not a pos) (tDT C (notT f)) :=
  PT.weak (pt_not h) fun σ H Q ⟨F, env, I, h⟩ => ⟨F, env, I, (Fin.bnd h).imp fun b e F1 H1 I1 s1 h1 => h1.here I1⟩
end
/-! ### and, or, not, if as values -/
def andV (fa fb : DE) : DE := fun env => (fa env).bind fun p => match p.1.d with
  | .bl true => fb p.2
  | .bl false => .ok (.frz (.bl false), p.2)
  | _ => .no
def orV (fa fb : DE) : DE := fun env => (fa env).bind fun p => match p.1.d with
  | .bl true => .ok (.frz (.bl true), p.2)
  | .bl false => fb p.2
  | _ => .no
def notV (fa : DE) : DE := fun env => (fa env).bind fun p => match p.1.d with
  | .bl b => .ok (.frz (.bl (!b)), p.2)
  | _ => .no
def ifV (c : DT) (fa fb : DE) : DE := fun env => (c env).bind fun p => match p.1 with
  | true => fa p.2
  | false => fb p.2
section
variable {rest : List Expr}
theorem qe_one {op} (h : PE X a (tD C f)) : PE X (.BoolOp op [a] pos) (tD C f) := pe_one h
theorem qe_and (h : PE X a (tD C fa)) (h2 : PE X (.BoolOp .And (b :: rest) pos) (tD C fb)) : PE X (.BoolOp .And (a :: b :: rest) pos) (tD C (andV fa fb)) :=
  PE.weak (pe_and (qz h) h2) fun σ H Q ⟨F, env, I, h⟩ => ⟨F, env, I, (Fin.bnd h).imp fun s e F1 H1 I1 s1 h1 x rx => by
    cases ed : s.d with
    | bl b =>
      simp only [ed] at h1 rx
      cases b with
      | true => exact ⟨true, rx.bl, iteT ⟨F1, e, I1, h1⟩⟩
      | false => exact ⟨false, rx.bl, iteF (Fin.val h1 I1 rBl)⟩
    | _ => simp only [ed] at h1; exact h1.elim⟩
theorem qe_or (h : PE X a (tD C fa)) (h2 : PE X (.BoolOp .Or (b :: rest) pos) (tD C fb)) : PE X (.BoolOp .Or (a :: b :: rest) pos) (tD C (orV fa fb)) :=
  PE.weak (pe_or (qz h) h2) fun σ H Q ⟨F, env, I, h⟩ => ⟨F, env, I, (Fin.bnd h).imp fun s e F1 H1 I1 s1 h1 x rx => by
    cases ed : s.d with
    | bl b =>
      simp only [ed] at h1 rx
      cases b with
      | true => exact ⟨true, rx.bl, iteT (Fin.val h1 I1 rBl)⟩
      | false => exact ⟨false, rx.bl, iteF ⟨F1, e, I1, h1⟩⟩
    | _ => simp only [ed] at h1; exact h1.elim⟩
theorem qe_not (h : PE X a (tD C fa)) : PE X (.UnaryOp .Not a pos) (tD C (notV fa)) :=
  PE.weak (pe_not (qz h)) fun σ H Q ⟨F, env, I, h⟩ => ⟨F, env, I, (Fin.bnd h).imp fun s e F1 H1 I1 s1 h1 x rx => by
    cases ed : s.d with
    | bl b => simp only [ed] at h1 rx; exact ⟨b, rx.bl, Fin.val h1 I1 rBl⟩
    | _ => simp only [ed] at h1; exact h1.elim⟩
theorem qe_if {g : DT} (hc : PT X c (tDT C g)) (ha : PE X a (tD C fa)) (hb : PE X b (tD C fb)) : PE X (.IfExp c a b pos) (tD C (ifV g fa fb)) :=
  PE.weak (pe_ifExp hc ha hb) fun σ H Q ⟨F, env, I, h⟩ => ⟨F, env, I, (Fin.bnd h).imp fun b e F1 H1 I1 s1 h1 => by
    cases b with
    | true => exact iteT ⟨F1, e, I1, h1⟩
    | false => exact iteF ⟨F1, e, I1, h1⟩⟩
end
/-! ### arguments, displays -/
def argsD : List DE → DEnv → R DEnv (List D × DEnv)
  | [], env => .ok ([], env)
  | f :: fs, env => (f env).bind fun p => (argsD fs p.2).bind fun q => .ok (p.1.d :: q.1, q.2)
def tDA (C : Cd) (fs : List DE) : TA := fun σ H Q => ∃ F env, In C F H σ env ∧ Fin C F σ (argsD fs env) fun ds _ F' H' => ∀ vs, RepL C.K C.mg F' ds vs → Q vs H'
section
variable {fs : List DE}
theorem ta_nil {σ : L2.St} {H : Hp} {Q : List V → Hp → Prop} : tDA C [] σ H Q → tNil σ H Q := fun ⟨F, env, I, h⟩ => h.here I [] repNil
theorem ta_cons {σ : L2.St} {H : Hp} {Q : List V → Hp → Prop} : tDA C (f :: fs) σ H Q → tCons (tDz C f) (tDA C fs) σ H Q := fun ⟨F, env, I, h⟩ =>
  ⟨F, env, I, (Fin.bnd h).imp fun s e F1 H1 I1 s1 h1 x rx => ⟨F1, e, I1, (Fin.bnd h1).imp fun ds e2 F2 H2 I2 s2 h2 vs rv => h2.here I2 _ (repCons (rx.mono s2) rv)⟩⟩
theorem qa_nil : PA X [] (tDA C []) := PA.weak pa_nil fun _ _ _ h => ta_nil h
theorem qa_cons (h : PE X e (tD C f)) (hs : PA X es (tDA C fs)) (hx : starEach (e :: es) X.env = (false, eval e X.env) :: starEach es X.env := by rfl) : PA X (e :: es) (tDA C (f :: fs)) := PA.weak (pa_cons (qz h) hs hx) fun _ _ _ h => ta_cons h
theorem qk_nil : PK X [] (tDA C []) := PK.weak pk_nil fun _ _ _ h => ta_nil h
theorem qk_cons {n : Option Str} {kp : Pos} {kws : List Keyword} (h : PE X e (tD C f)) (hs : PK X kws (tDA C fs)) : PK X (⟨n, e, kp⟩ :: kws) (tDA C (f :: fs)) := PK.weak (pk_cons (qz h) hs) fun _ _ _ h => ta_cons h
end
theorem argsD_len : ∀ {fs : List DE} {env : DEnv} {p : List D × DEnv}, argsD fs env = .ok p → p.1.length = fs.length
  | [], env, p, h => by cases h; rfl
  | f :: fs, env, p, h => by
    unfold argsD at h
    cases e : f env with
    | ok q =>
      rw [e] at h
      cases e2 : argsD fs q.2 with
      | ok r =>
        simp only [R.bind_ok, e2] at h
        cases h
        simp [argsD_len e2]
      | er c x y => simp only [R.bind_ok, e2, R.bind_er] at h; cases h
      | no => simp only [R.bind_ok, e2, R.bind_no] at h; cases h
    | er c x y => rw [e] at h; cases h
    | no => rw [e] at h; cases h
def lstD (fs : List DE) : DE := fun env => (argsD fs env).bind fun p => .ok (.own (.lst p.1), p.2)
def tupD (fs : List DE) : DE := fun env => (argsD fs env).bind fun p => .ok (.frz (.tup p.1), p.2)
theorem In.newList {F H : Hp} {σ : L2.St} {env : DEnv} (I : In C F H σ env) {p : Addr} {xs : List V} {ds : List D} (n : H p = .none) (r : RepL C.K C.mg F ds xs) : In C F (upd H p (.lst xs)) σ env ∧ Fresh C F (upd H p (.lst xs)) env σ (.lst ds) p := by
  refine ⟨I.fresh n, I.none n, I.none0 n, ⟨xs, upd_same, r⟩, fun i s hi ms hz => ?_⟩
  obtain ⟨v, hv, hs⟩ := I.sl i s hi
  rw [hv] at hz
  cases hz
  cases s with
  | frz d => cases ms
  | exn c => cases ms
  | own d =>
    obtain ⟨q, e, h1, h2, h3⟩ := hs
    cases e
    obtain ⟨o, ho⟩ := h3.some
    rw [ho] at n
    cases n
  | bor d =>
    obtain ⟨q, e, h1, h2, h3⟩ := hs
    cases e
    obtain ⟨o, ho⟩ := h3.some
    rw [ho] at n
    cases n
theorem qe_lst {fs : List DE} (ha : PA X es (tDA C fs)) (hl : fs.length ≤ sizeLine := by decide) : PE X (.List es pos) (tD C (lstD fs)) :=
  PE.weak (pe_lst ha) fun σ H Q ⟨F, env, I, h⟩ => ⟨F, env, I, by
    unfold lstD at h
    cases e : argsD fs env with
    | no => rw [e] at h; exact h
    | er c x y => rw [e] at h; exact h
    | ok p =>
      rw [e] at h
      intro F' H' I' s' vs rv
      refine ⟨by rw [rv.len, argsD_len e]; exact hl, fun q nq => ?_⟩
      obtain ⟨I2, fr⟩ := I'.newList nq rv
      exact h _ _ I2 s' _ ⟨q, rfl, fr⟩⟩
theorem qe_tup {fs : List DE} {cx} (ha : PA X es (tDA C fs)) (hl : fs.length ≤ sizeLine := by decide) : PE X (.Tuple es cx pos) (tD C (tupD fs)) :=
  PE.weak (pe_tup ha) fun σ H Q ⟨F, env, I, h⟩ => ⟨F, env, I, by
    unfold tupD at h
    cases e : argsD fs env with
    | no => rw [e] at h; exact h
    | er c x y => rw [e] at h; exact h
    | ok p =>
      rw [e] at h
      intro F' H' I' s' vs rv
      refine ⟨by rw [rv.len, argsD_len e]; exact hl, fun q nq => ?_⟩
      have sF := I'.same (o := .tup vs) nq
      exact h _ _ (I'.alloc nq) (s'.trans sF) _ (Rep.ofTup upd_same (rv.mono sF))⟩
end
end Dd

namespace Dd
open PySem PySem.Spec PyProof.Rows L2
/-! ### statements -/
inductive Out where
  | nx (e : DEnv)
  | rt (s : Sl) (e : DEnv)
  | bk (e : DEnv)
  | ct (e : DEnv)
abbrev DS := DEnv → R DEnv Out
def FinS (C : Cd) (F : Hp) (r : R DEnv Out) (T : Ends) : Prop := match r with
  | .ok (.nx e) => ∀ σ F' H', In C F' H' σ e → Same F F' → T.nx σ H'
  | .ok (.rt s e) => ∀ v σ F' H', In C F' H' σ e → Same F F' → Res C F' H' e σ s v → T.rt v H'
  | .ok (.bk e) => ∀ σ F' H', In C F' H' σ e → Same F F' → T.bk σ H'
  | .ok (.ct e) => ∀ σ F' H', In C F' H' σ e → Same F F' → T.ct σ H'
  | .er c fs e => C.rz = true ∧ ∀ x σ F' H', In C F' H' σ e → Same F F' → ErOk C F' fs x → C.W (.ref (clsA C.mg c)) x σ H'
  | .no => False
theorem FinS.le {C : Cd} {F F1 : Hp} {r : R DEnv Out} {T : Ends} (s : Same F F1) (h : FinS C F r T) : FinS C F1 r T := by
  cases r with
  | ok o =>
    cases o with
    | nx e => exact fun σ F' H' I s' => h σ F' H' I (s.trans s')
    | rt z e => exact fun v σ F' H' I s' => h v σ F' H' I (s.trans s')
    | bk e => exact fun σ F' H' I s' => h σ F' H' I (s.trans s')
    | ct e => exact fun σ F' H' I s' => h σ F' H' I (s.trans s')
  | er c fs e => exact ⟨h.1, fun x σ F' H' I s' k => h.2 x σ F' H' I (s.trans s') k⟩
  | no => exact h
def tDS (C : Cd) (g : DS) : TS := fun T σ H => ∃ F env, In C F H σ env ∧ FinS C F (g env) T
/-- from an expression into a statement -/
def bindS {α : Type} (r : R DEnv (α × DEnv)) (k : α × DEnv → R DEnv Out) : R DEnv Out := match r with
  | .ok p => k p
  | .er c fs e => .er c fs e
  | .no => .no
@[simp] theorem bindS_ok {α : Type} (a : α × DEnv) (k : α × DEnv → R DEnv Out) : bindS (.ok a) k = k a := rfl
@[simp] theorem bindS_er {α : Type} (c : Str) (fs : List (Str × D)) (e : DEnv) (k : α × DEnv → R DEnv Out) : bindS (.er c fs e) k = .er c fs e := rfl
@[simp] theorem bindS_no {α : Type} (k : α × DEnv → R DEnv Out) : bindS (.no) k = .no := rfl
theorem FinS.bnd {C : Cd} {F : Hp} {σ : L2.St} {α : Type} {r : R DEnv (α × DEnv)} {k : α × DEnv → R DEnv Out} {T : Ends} (h : FinS C F (bindS r k) T) : Fin C F σ r fun a e F' _ => FinS C F' (k (a, e)) T := by
  cases r with
  | ok p => exact fun F' H' I s => FinS.le s h
  | er c fs e => exact ⟨h.1, fun x F' H' I s k => h.2 x σ F' H' I s k⟩
  | no => exact h
section
variable {X : Cx} {C : Cd} {e a b c : Expr} {es : List Expr} {st : Stmt} {rest : List Stmt} {f fa fb : DE} {g g1 g2 : DS} {pos : Pos}
def nextD : DS := fun env => .ok (.nx env)
def seqD (g1 g2 : DS) : DS := fun env => match g1 env with
  | .ok (.nx e) => g2 e
  | r => r
theorem qss_nil : PSs X [] (tDS C nextD) := PSs.weak pss_nil fun T σ H ⟨F, env, I, h⟩ => h σ F H I (.refl _)
theorem qss_one (h : PS X st (tDS C g)) : PSs X [st] (tDS C g) := pss_one h
theorem qss_cons (h1 : PS X st (tDS C g1)) (h2 : PSs X rest (tDS C g2)) : PSs X (st :: rest) (tDS C (seqD g1 g2)) := PSs.weak (pss_cons h1 h2) fun T σ H ⟨F, env, I, h⟩ => ⟨F, env, I, by
  unfold seqD at h
  cases e : g1 env with
  | no => rw [e] at h; exact h
  | er c fs x => rw [e] at h; exact h
  | ok o =>
    rw [e] at h
    cases o with
    | nx x => exact fun σ' F' H' I' s' => ⟨F', x, I', FinS.le s' h⟩
    | rt z x => exact h
    | bk x => exact h
    | ct x => exact h⟩
def exprD (f : DE) : DS := fun env => bindS (f env) fun p => .ok (.nx p.2)
theorem qs_expr (he : PE X e (tD C f)) (hs : swapsWith e none pos.line X.env = pure false := by rfl) : PS X (.Expr e pos) (tDS C (exprD f)) :=
  PS.weak (ps_expr (qz he) hs) fun T σ H ⟨F, env, I, h⟩ => ⟨F, env, I, (FinS.bnd h).imp fun s e F1 H1 I1 s1 h1 v _ => h1 σ F1 H1 I1 (.refl _)⟩
theorem qs_doc {x j pos pos'} : PS X (.Expr (.Constant (.str x) j pos) pos') (tDS C nextD) := PS.weak ps_doc fun T σ H ⟨F, env, I, h⟩ => h σ F H I (.refl _)
theorem qs_pass : PS X (.Pass pos) (tDS C nextD) := PS.weak ps_pass fun T σ H ⟨F, env, I, h⟩ => h σ F H I (.refl _)
def brkD : DS := fun env => .ok (.bk env)
def contD : DS := fun env => .ok (.ct env)
theorem qs_break : PS X (.Break pos) (tDS C brkD) := PS.weak ps_break fun T σ H ⟨F, env, I, h⟩ => h σ F H I (.refl _)
theorem qs_cont : PS X (.Continue pos) (tDS C contD) := PS.weak ps_continue fun T σ H ⟨F, env, I, h⟩ => h σ F H I (.refl _)
def retD (f : DE) : DS := fun env => bindS (f env) fun p => .ok (.rt p.1 p.2)
theorem qs_ret (he : PE X e (tD C f)) : PS X (.Return (some e) pos) (tDS C (retD f)) :=
  PS.weak (ps_ret he) fun T σ H ⟨F, env, I, h⟩ => ⟨F, env, I, (FinS.bnd h).imp fun s e F1 H1 I1 s1 h1 v r => h1 v σ F1 H1 I1 (.refl _) r⟩
def retND : DS := fun env => .ok (.rt (.frz .non) env)
theorem qs_retN : PS X (.Return none pos) (tDS C retND) := PS.weak ps_retN fun T σ H ⟨F, env, I, h⟩ => h .non σ F H I (.refl _) (show Rep C.K C.mg F .non .non from rNon)
def retNameD (i : Nat) : DS := fun env => match env[i]? with
  | some (some (.frz d)) => .ok (.rt (.frz d) env)
  | some (some (.own d)) => .ok (.rt (.own d) (env.set i none))
  | _ => .no
theorem set_id {α : Type} {l : List α} {i : Nat} {x : α} (h : l[i]? = some x) : l.set i x = l := by
  apply List.ext_getElem?
  intro j
  by_cases e : i = j
  · subst e
    rw [List.getElem?_set_self (List.getElem?_eq_some_iff.mp h).1, h]
  · rw [List.getElem?_set_ne e]
theorem In.lift {F H : Hp} {σ : L2.St} {env : DEnv} (I : In C F H σ env) {i : Nat} {d : D} (hi : env[i]? = some (some (.own d))) : ∃ p, σ[i]? = some (some (.ref p)) ∧ In C F H σ (env.set i .none) ∧ Fresh C F H (env.set i .none) σ d p := by
  obtain ⟨v, hv, p, rfl, h1, h2, h3⟩ := I.sl i _ hi
  have q := I.drop i (some (.ref p))
  rw [set_id hv] at q
  refine ⟨p, hv, q, h1, h2, h3, ?_⟩
  intro j s hj ms hz
  by_cases e : i = j
  · subst e
    obtain ⟨_, es⟩ := set_self hj
    cases es
  · rw [List.getElem?_set_ne e] at hj
    exact e (I.ds i j _ s p hi hj rfl ms hv hz)
theorem qs_retName {i : Nat} (he : PE X e (tVar i)) : PS X (.Return (some e) pos) (tDS C (retNameD i)) :=
  PS.weak (ps_ret he) fun T σ H ⟨F, env, I, h⟩ => by
    unfold retNameD at h
    cases e : env[i]? with
    | none => rw [e] at h; exact h.elim
    | some o =>
      rw [e] at h
      cases o with
      | none => exact h.elim
      | some s =>
        cases s with
        | frz d =>
          obtain ⟨v, hv, r⟩ := I.sl i _ e
          exact ⟨v, hv, h v σ F H I (.refl _) r⟩
        | own d =>
          obtain ⟨p, hv, I', fr⟩ := I.lift e
          exact ⟨_, hv, h _ σ F H I' (.refl _) ⟨p, rfl, fr⟩⟩
        | bor d => exact h.elim
        | exn c => exact h.elim
def ifD (c : DT) (g1 g2 : DS) : DS := fun env => bindS (c env) fun p => match p.1 with
  | true => g1 p.2
  | false => g2 p.2
theorem qs_if {t : DT} {ss ss' : List Stmt} (hc : PT X c (tDT C t)) (ha : PSs X ss (tDS C g1)) (hb : PSs X ss' (tDS C g2)) : PS X (.If c ss ss' pos) (tDS C (ifD t g1 g2)) :=
  PS.weak (ps_if hc ha hb) fun T σ H ⟨F, env, I, h⟩ => ⟨F, env, I, (FinS.bnd h).imp fun b e F1 H1 I1 s1 h1 => by
    cases b with
    | true => exact iteT ⟨F1, e, I1, h1⟩
    | false => exact iteF ⟨F1, e, I1, h1⟩⟩
/-- x = e -/
def setD (i : Nat) (f : DE) : DS := fun env => bindS (f env) fun p => .ok (.nx (p.2.set i (some p.1)))
theorem In.assign {F H : Hp} {σ : L2.St} {env : DEnv} (I : In C F H σ env) {i : Nat} {s : Sl} {v : V} (r : Res C F H env σ s v) : In C F H (σ.set i (some v)) (env.set i (some s)) := by
  cases s with
  | frz d => exact I.put r
  | exn c => exact r.elim
  | own d =>
    obtain ⟨p, rfl, fr⟩ := r
    exact I.putOwn fr
  | bor d => exact r.elim
theorem t_set {i : Nat} {T : Ends} {σ : L2.St} {H : Hp} : tDS C (setD i f) T σ H → tAsg (tD C f) (gName i) T σ H := fun ⟨F, env, I, h⟩ =>
  ⟨F, env, I, (FinS.bnd h).imp fun s e F1 H1 I1 s1 h1 v r => h1 _ F1 H1 (I1.assign r) (.refl _)⟩
theorem qs_set {i : Nat} {x : Str} {pos' : Pos} (hN : X.N.Nodup) (hi : X.N[i]? = some x) (hx : Loc X.env.scope x) (he : PE X e (tD C f)) (hs : swapsWith e (some (.Name x pos')) pos.line X.env = pure false := by rfl) (hf : X.fn x = true ∨ X.env.scope.names.lookup x = some .local := by first | exact .inl rfl | exact .inr rfl | assumption) :
    PS X (.Assign [.Name x pos'] e pos) (tDS C (setD i f)) := PS.weak (ps_set hN hi hx he hs hf) fun _ _ _ h => t_set h
/-- targets -/
abbrev DG := D → DEnv → Option DEnv
/-- all slots but those are as they were -/
def Agree (ts : List Nat) (σ σ' : L2.St) : Prop := σ'.length = σ.length ∧ ∀ i : Nat, i ∉ ts → σ'[i]? = σ[i]?
def tDG (C : Cd) (ts : List Nat) (g : DG) : TG := fun v σ H Q => ∃ F env d e, In C F H σ env ∧ Rep C.K C.mg F d v ∧ g d env = some e ∧ ∀ σ' F' H', In C F' H' σ' e → Same F F' → Agree ts σ σ' → Q σ' H'
def tDGs (C : Cd) (ts : List Nat) (g : List D → DEnv → Option DEnv) : TGs := fun vs σ H Q => ∃ F env ds e, In C F H σ env ∧ RepL C.K C.mg F ds vs ∧ g ds env = some e ∧ ∀ σ' F' H', In C F' H' σ' e → Same F F' → Agree ts σ σ' → Q σ' H'
def gNameD (i : Nat) : DG := fun d env => some (env.set i (some (.frz d)))
def gNilD : List D → DEnv → Option DEnv := fun ds env => match ds with
  | [] => some env
  | _ => none
def gConsD (g : DG) (gs : List D → DEnv → Option DEnv) : List D → DEnv → Option DEnv := fun ds env => match ds with
  | [] => none
  | d :: r => match g d env with
    | some e => gs r e
    | none => none
def gTupD (n : Nat) (gs : List D → DEnv → Option DEnv) : DG := fun d env => match d with
  | .tup ds => if ds.length = n then gs ds env else none
  | .lst ds => if ds.length = n then gs ds env else none
  | _ => none
theorem PG.or {X : Cx} {e : Expr} {t t' : TG} (h : PG X e t) (h' : PG X e t') : PG X e (fun v σ H Q => t v σ H Q ∨ t' v σ H Q) := ⟨fun pins s σ H v u Q I r w => w.elim (h.run pins s σ H v u Q I r) (h'.run pins s σ H v u Q I r)⟩
theorem qg_name {i : Nat} {x : Str} (hN : X.N.Nodup) (hi : X.N[i]? = some x) (hx : Loc X.env.scope x) (hf : X.fn x = true ∨ X.env.scope.names.lookup x = some .local := by first | exact .inl rfl | exact .inr rfl | assumption) : PG X (.Name x pos) (tDG C [i] (gNameD i)) :=
  PG.weak (pg_name hN hi hx hf) fun v σ H Q ⟨F, env, d, e, I, r, hg, h⟩ => by
    cases hg
    exact h _ F H (I.put r) (.refl _) ⟨List.length_set, fun j hj => List.getElem?_set_ne (fun z => hj (by simp [z]))⟩
theorem qgs_nil : PGs X [] (tDGs C [] gNilD) := PGs.weak pgs_nil fun vs σ H Q ⟨F, env, ds, e, I, r, hg, h⟩ => by
  cases ds with
  | nil =>
    cases hg
    exact ⟨r.nil, h σ F H I (.refl _) ⟨rfl, fun _ _ => rfl⟩⟩
  | cons d r => cases hg
theorem qgs_cons {g : DG} {gs : List D → DEnv → Option DEnv} {t1 t2 : List Nat} (h1 : PG X e (tDG C t1 g)) (h2 : PGs X es (tDGs C t2 gs)) (hs : (assignEach (e :: es) X.env).map (·.2) = assign e X.env :: (assignEach es X.env).map (·.2) := by rfl) : PGs X (e :: es) (tDGs C (t1 ++ t2) (gConsD g gs)) :=
  PGs.weak (pgs_cons h1 h2 hs) fun vs σ H Q ⟨F, env, ds, e, I, r, hg, h⟩ => by
    cases ds with
    | nil => cases hg
    | cons d ds =>
      obtain ⟨x, r', rfl, rx, rr⟩ := r.cons
      unfold gConsD at hg
      cases e1 : g d env with
      | none => simp only [e1] at hg; cases hg
      | some e1' =>
        simp only [e1] at hg
        exact ⟨x, r', rfl, F, env, d, e1', I, rx, e1, fun σ' F' H' I' s' ag => ⟨F', e1', ds, e, I', rr.mono s', hg, fun σ2 F2 H2 I2 s2 ag2 => h σ2 F2 H2 I2 (s'.trans s2) ⟨ag2.1.trans ag.1, fun j hj => (ag2.2 j fun z => hj (by simp [z])).trans (ag.2 j fun z => hj (by simp [z]))⟩⟩⟩
theorem qg_tup {k : Nat} {n : Nat} {ts : List Nat} {gs : List D → DEnv → Option DEnv} (ft : Fit X C) (hc : X.calm = true) (h : PGs X es (tDGs C ts gs)) (hn : (assignEach es X.env).length = n := by rfl) (hst : (assignEach es X.env).findIdx? (·.1) = none := by rfl) : PG X (.Tuple es k pos) (tDG C ts (gTupD n gs)) :=
  PG.weak (PG.or (pg_tup hc h hn hst) (pg_lst hc h hn hst)) fun v σ H Q ⟨F, env, d, e, I, r, hg, h⟩ => by
    unfold gTupD at hg
    cases d with
    | tup ds =>
      simp only at hg
      by_cases hl : ds.length = n
      · rw [if_pos hl] at hg
        obtain ⟨a, xs, rfl, h1, h2⟩ := r.tup
        exact .inl ⟨a, xs, rfl, by rw [ft.k]; exact sameT I.fh h1, by rw [h2.len]; exact hl, F, env, ds, e, I, h2, hg, h⟩
      · rw [if_neg hl] at hg; cases hg
    | lst ds =>
      simp only at hg
      by_cases hl : ds.length = n
      · rw [if_pos hl] at hg
        obtain ⟨a, xs, rfl, h1, h2⟩ := r.lst
        exact .inr ⟨a, xs, rfl, .inl (.inl (I.fh _ _ h1)), by rw [h2.len]; exact hl, F, env, ds, e, I, h2, hg, h⟩
      · rw [if_neg hl] at hg; cases hg
    | _ => cases hg
/-- target = e -/
def asgD (g : DG) (f : DE) : DS := fun env => bindS (f env) fun p => match g p.1.d p.2 with
  | some e => .ok (.nx e)
  | none => .no
theorem qs_asg {tg : Expr} {ts : List Nat} {g : DG} (he : PE X e (tD C f)) (hg : PG X tg (tDG C ts g)) (hs : swapsWithSole [tg] e pos.line X.env = pure false := by rfl) (hw : swappedStores [tg] e X.env = pure none := by rfl)
    (h1 : (assignEach [tg] X.env).map (·.2) = [assign tg X.env] := by rfl) : PS X (.Assign [tg] e pos) (tDS C (asgD g f)) :=
  PS.weak (ps_asg (qz he) hg hs hw h1) fun T σ H ⟨F, env, I, h⟩ => ⟨F, env, I, (FinS.bnd h).imp fun s e F1 H1 I1 s1 h1 v r => by
    cases eg : g s.d e with
    | none => simp only [eg] at h1; exact h1.elim
    | some e' => simp only [eg] at h1; exact ⟨F1, e, s.d, e', I1, r, eg, fun σ' F' H' I' s' _ => h1 σ' F' H' I' s'⟩⟩
/-- x op= e -/
def augD (g : D → D → Option Sl) (i : Nat) (f : DE) : DS := fun env => match env[i]? with
  | some (some (.frz d)) => bindS (f env) fun p => match g d p.1.d with
    | some s => .ok (.nx (p.2.set i (some s)))
    | none => .no
  | _ => .no
theorem qs_aug {i : Nat} {x : Str} {op : Operator} {r : TIp} {gg : D → D → Option Sl} {px : Pos} (h : ∀ {te : TE}, PE X e te → PS X (.AugAssign (.Name x px) op e pos) (tAug i te r)) (ok : OpOk C r gg) (he : PE X e (tD C f)) : PS X (.AugAssign (.Name x px) op e pos) (tDS C (augD gg i f)) :=
  PS.weak (h (qz he)) fun T σ H ⟨F, env, I, h⟩ => by
    unfold augD at h
    cases ei : env[i]? with
    | none => rw [ei] at h; exact h.elim
    | some o =>
      rw [ei] at h
      cases o with
      | none => exact h.elim
      | some s =>
        cases s with
        | frz d =>
          obtain ⟨v, hv, rv⟩ := I.sl i _ ei
          refine ⟨v, hv, F, env, I, (FinS.bnd h).imp fun s e F1 H1 I1 s1 h1 y ry => ?_⟩
          cases eg : gg d s.d with
          | none => simp only [eg] at h1; exact h1.elim
          | some z =>
            simp only [eg] at h1
            exact ok F1 H1 σ e v y _ _ z _ I1 (Rep.mono s1 rv) ry eg fun w F' H' I' s' r' => h1 _ F' H' (I'.assign r') s'
        | own d => exact h.elim
        | bor d => exact h.elim
        | exn c => exact h.elim
/-! ### what is walked -/
def ItOk (C : Cd) (J : It) (ds : List D) (F1 : Hp) : Prop := ∀ F H σ env (i : Nat), Same F1 F → In C F H σ env →
  (∀ d, ds[i]? = some d → J.go i H ∧ ∀ x H', J.yld i H x H' → ∃ F', Ext F H F' H' ∧ Rep C.K C.mg F' d x) ∧ (i = ds.length → J.stop i H)
abbrev DI := DEnv → R DEnv (List D × DEnv)
def tDI (C : Cd) (f : DI) : TI := fun σ H Q => ∃ F env, In C F H σ env ∧ Fin C F σ (f env) fun ds _ F' H' => ∀ J, ItOk C J ds F' → Q J H'
def forD (g : DG) (body : DS) : List D → DEnv → R DEnv Out
  | [], env => .ok (.nx env)
  | d :: ds, env => match g d env with
    | none => .no
    | some e => match body e with
      | .ok (.nx e') => forD g body ds e'
      | .ok (.ct e') => forD g body ds e'
      | .ok (.bk e') => .ok (.nx e')
      | .ok (.rt s e') => .ok (.rt s e')
      | .er c fs e' => .er c fs e'
      | .no => .no
def forS (fi : DI) (g : DG) (body : DS) : DS := fun env => bindS (fi env) fun p => forD g body p.1 p.2
theorem qs_for {tg iter : Expr} {ts : List Nat} {body : List Stmt} {fi : DI} {gg : DG} {gb : DS} (hp : PassesOwn (model X.prog X.w) X.A X.env X.xe) (hc : X.calm = true) (hi : PI X tg iter (tDI C fi)) (hg : PG X tg (tDG C ts gg)) (hb : PSs X body (tDS C gb))
    (hs : ∀ x, foldedSetIterable iter X.env x = pure x := by intro _; rfl) : PS X (.For tg iter body [] pos) (tDS C (forS fi gg gb)) :=
  PS.weak (ps_for hp hc hi hg hb hs) fun T σ H ⟨F, env, I, h⟩ => ⟨F, env, I, (FinS.bnd h).imp fun ds e F1 H1 I1 s1 h1 J ok => by
    refine ⟨fun i m σ H => m = ds.length - i ∧ i ≤ ds.length ∧ ∃ F env, In C F H σ env ∧ Same F1 F ∧ FinS C F (forD gg gb (ds.drop i) env) T, ⟨ds.length, by simp, Nat.zero_le _, F1, e, I1, .refl _, by simpa using h1⟩, ?_⟩
    rintro i m σ H ⟨rfl, hi, F, env, I, sF, h⟩
    rcases Nat.lt_or_ge i ds.length with hlt | hge
    · have ed : ds[i]? = some ds[i] := List.getElem?_eq_getElem hlt
      obtain ⟨go, yl⟩ := (ok F H σ env i sF I).1 _ ed
      refine .inr ⟨go, fun σ H => ∃ F env, In C F H σ env ∧ Same F1 F ∧ FinS C F (forD gg gb (ds.drop (i + 1)) env) T, fun σ' H' q => ⟨ds.length - (i + 1), by omega, rfl, hlt, q⟩, fun x H' y => ?_⟩
      obtain ⟨F', xt, r'⟩ := yl x H' y
      have I' := I.call xt
      have s' := xt.ff
      rw [List.drop_eq_getElem_cons hlt] at h
      unfold forD at h
      cases eg : gg ds[i] env with
      | none => simp only [eg] at h; exact h.elim
      | some e' =>
        simp only [eg] at h
        refine ⟨F', env, ds[i], e', I', r', eg, fun σ2 F2 H2 I2 s2 _ => ⟨F2, e', I2, ?_⟩⟩
        have sA := s'.trans s2
        cases eb : gb e' with
        | no => simp only [eb] at h; exact h
        | er c fs x => simp only [eb] at h; exact FinS.le sA h
        | ok o =>
          cases o with
          | nx z => simp only [eb] at h; exact fun σ3 F3 H3 I3 s3 => ⟨F3, z, I3, (sF.trans sA).trans s3, FinS.le (sA.trans s3) h⟩
          | ct z => simp only [eb] at h; exact fun σ3 F3 H3 I3 s3 => ⟨F3, z, I3, (sF.trans sA).trans s3, FinS.le (sA.trans s3) h⟩
          | bk z => simp only [eb] at h; exact fun σ3 F3 H3 I3 s3 => h σ3 F3 H3 I3 (sA.trans s3)
          | rt w z => simp only [eb] at h; exact fun v σ3 F3 H3 I3 s3 r3 => h v σ3 F3 H3 I3 (sA.trans s3) r3
    · have e : i = ds.length := by omega
      subst e
      rw [List.drop_length] at h
      exact .inl ⟨(ok F H σ env _ sF I).2 rfl, h σ F H I (.refl _)⟩⟩
end
end Dd

namespace Dd
open PySem PySem.Spec PyProof.Rows L2
/-! ### what a def promises -/
abbrev DF := List D → R (List D) (Sl × List D)
structure ExtB (p : Addr) (F H F' H' : Hp) : Prop where
  ff : Same F F'
  fh : Same F' H'
  hh : ∀ a o, H a = some o → a ≠ p → H' a = some o
  nf : ∀ a o, F' a = some o → F a = some o ∨ H a = none
def ResO (K : PySem.W.Frag) (mg : Str → Option Value) (F' H' H : Hp) : Sl → V → Prop
  | .frz d, v => Rep K mg F' d v
  | .own d, v => ∃ p, v = .ref p ∧ F' p = none ∧ H p = none ∧ Own K mg F' H' d p
  | .bor _, _ => False
  | .exn _, _ => False
def ErO (K : PySem.W.Frag) (mg : Str → Option Value) (F : Hp) (fs : List (Str × D)) (x : Option Addr) : Prop := match fs with
  | [] => x = none
  | f :: r => ∃ a xs, x = some a ∧ F a = some (.xd (((f :: r).map (·.1)).zip xs)) ∧ RepL K mg F ((f :: r).map (·.2)) xs
def spP (K : PySem.W.Frag) (mg : Str → Option Value) (n : Nat) (g : DF) : Sp := fun vs H Q E => vs.length = n ∧ ∃ F ds, Same F H ∧ RepL K mg F ds vs ∧
  match g ds with
  | .ok p => ∀ v F' H', Ext F H F' H' → ResO K mg F' H' H p.1 v → Q v H'
  | .er c fs _ => ∀ x F' H', Ext F H F' H' → ErO K mg F' fs x → E (.ref (clsA mg c)) x H'
  | .no => False
def sp0 (K : PySem.W.Frag) (mg : Str → Option Value) (n : Nat) (g : DF) : Sp := fun vs H Q E => vs.length = n ∧ ∃ F ds, Same F H ∧ RepL K mg F ds vs ∧
  match g ds with
  | .ok p => ∀ v F' H', Ext F H F' H' → ResO K mg F' H' H p.1 v → Q v H'
  | _ => False
def spB (K : PySem.W.Frag) (mg : Str → Option Value) (n : Nat) (g : DF) : Sp := fun vs H Q E => vs.length = n ∧ ∃ F d0 ds p vr, vs = .ref p :: vr ∧ Same F H ∧ F p = none ∧ Own K mg F H d0 p ∧ RepL K mg F ds vr ∧
  match g (d0 :: ds) with
  | .ok (s, [d]) => ∀ v F' H', ExtB p F H F' H' → F' p = none → Own K mg F' H' d p → ResO K mg F' H' H s v → Q v H'
  | _ => False
def outF (r : R DEnv Out) : R (List D) (Sl × List D) := match r with
  | .ok (.rt s _) => .ok (s, [])
  | .ok (.nx _) => .ok (.frz .non, [])
  | .ok _ => .no
  | .er c fs _ => .er c fs []
  | .no => .no
def outB (r : R DEnv Out) : R (List D) (Sl × List D) := match r with
  | .ok (.rt s e) => match e[0]? with
    | some (some (Sl.bor d)) => .ok (s, [d])
    | _ => .no
  | .ok (.nx e) => match e[0]? with
    | some (some (Sl.bor d)) => .ok (.frz .non, [d])
    | _ => .no
  | _ => .no
def env0 (n : Nat) (ds : List D) : DEnv := ds.map (fun d => some (.frz d)) ++ List.replicate (n - ds.length) none
def envB (n : Nat) (ds : List D) : DEnv := match ds with
  | [] => []
  | d :: r => some (.bor d) :: (r.map (fun d => some (.frz d)) ++ List.replicate (n - ds.length) none)
def bodyF (n : Nat) (g : DS) : DF := fun ds => outF (g (env0 n ds))
def bodyB (n : Nat) (g : DS) : DF := fun ds => outB (g (envB n ds))
structure Has (K : PySem.W.Frag) (mg : Str → Option Value) (x : Str) (st : Stmt) (ps : List Str) : Prop where
  ex : ∃ f fd, Fun K x x st f fd ∧ mg x = some (.ref f) ∧ Binds K fd ps []
structure Ok (P : Program) (w : World) (K : PySem.W.Frag) (mg : Str → Option Value) (base : Heap) (C : CXT) (x : Str) (st : Stmt) (k : Nat) (ps : List Str) (sp : Sp) : Prop where
  ex : ∃ f fd, Fun K x x st f fd ∧ FnOk P w K mg base C k f fd ps sp ∧ mg x = some (.ref f) ∧ Binds K fd ps []
section
variable {K : PySem.W.Frag} {mg : Str → Option Value} {F H : Hp} {W : WX} {rz : Bool}
theorem start_get {N : List Str} {vs : List V} {i : Nat} {v : V} (h : vs[i]? = some v) : (L2.start N vs)[i]? = some (some v) := by
  unfold L2.start
  have hl : i < vs.length := (List.getElem?_eq_some_iff.mp h).1
  rw [List.getElem?_append_left (by rw [List.length_map]; exact hl), List.getElem?_map, h]
  rfl
theorem env0_get {n : Nat} {ds : List D} {i : Nat} {s : Sl} (h : (env0 n ds)[i]? = some (some s)) : ∃ d, ds[i]? = some d ∧ s = .frz d := by
  unfold env0 at h
  rcases Nat.lt_or_ge i ds.length with hl | hl
  · rw [List.getElem?_append_left (by rw [List.length_map]; exact hl), List.getElem?_map, List.getElem?_eq_getElem hl] at h
    exact ⟨_, List.getElem?_eq_getElem hl, (Option.some.inj (Option.some.inj h)).symm⟩
  · rw [List.getElem?_append_right (by rw [List.length_map]; exact hl), List.getElem?_replicate] at h
    split at h <;> cases h
theorem In.start {N : List Str} {vs : List V} {ds : List D} (s : Same F H) (r : RepL K mg F ds vs) : In ⟨K, mg, F, H, fun _ => False, W, 0, "", rz⟩ F H (L2.start N vs) (env0 N.length ds) := by
  refine ⟨.refl _, s, fun a o h _ => h, fun a o h => .inl h, ?_, fun i z hz => ?_, fun i j z t p hi hj mz => ?_, fun p hp => hp.elim⟩
  · unfold L2.start env0
    simp [r.len]
  · obtain ⟨d, hd, rfl⟩ := env0_get hz
    obtain ⟨x, hx, rx⟩ := r.get hd
    exact ⟨x, start_get hx, rx⟩
  · obtain ⟨d, _, rfl⟩ := env0_get hi
    cases mz
theorem In.ext {N : List Str} {σ : L2.St} {F' H' : Hp} {e : DEnv} (I : In ⟨K, mg, F, H, fun _ => False, W, 0, "", rz⟩ F' H' σ e) : Ext F H F' H' := ⟨I.f0, I.fh, fun a o h => I.fr a o h (fun z => z), I.nf⟩
theorem Res.out {σ : L2.St} {F' H' F0 H0 : Hp} {B : Addr → Prop} {e : DEnv} {s : Sl} {v : V} (r : Res ⟨K, mg, F0, H0, B, W, 0, "", rz⟩ F' H' e σ s v) : ResO K mg F' H' H0 s v := by
  cases s with
  | frz d => exact r
  | exn c => exact r.elim
  | own d =>
    obtain ⟨p, rfl, fr⟩ := r
    exact ⟨p, rfl, fr.f, fr.h0, fr.o⟩
  | bor d => exact r.elim
theorem In.startB {N : List Str} {vs : List V} {ds : List D} {d0 : D} {p : Addr} (hN : 0 < N.length) (s : Same F H) (nF : F p = .none) (o : Own K mg F H d0 p) (r : RepL K mg F ds vs) : In ⟨K, mg, F, H, fun q => q = p, W, 0, "", rz⟩ F H (L2.start N (.ref p :: vs)) (envB N.length (d0 :: ds)) := by
  have sl : ∀ (i : Nat) (z : Sl), (envB N.length (d0 :: ds))[i]? = some (some z) → (i = 0 ∧ z = .bor d0) ∨ ∃ j d, i = j + 1 ∧ ds[j]? = some d ∧ z = .frz d := by
    intro i z hz
    cases i with
    | zero => simp only [envB, List.getElem?_cons_zero] at hz; cases hz; exact .inl ⟨rfl, rfl⟩
    | succ j =>
      simp only [envB, List.getElem?_cons_succ] at hz
      rcases Nat.lt_or_ge j ds.length with hl | hl
      · rw [List.getElem?_append_left (by rw [List.length_map]; exact hl), List.getElem?_map, List.getElem?_eq_getElem hl] at hz
        exact .inr ⟨j, _, rfl, List.getElem?_eq_getElem hl, (Option.some.inj (Option.some.inj hz)).symm⟩
      · rw [List.getElem?_append_right (by rw [List.length_map]; exact hl), List.getElem?_replicate] at hz
        split at hz <;> cases hz
  refine ⟨.refl _, s, fun a o h _ => h, fun a o h => .inl h, ?_, fun i z hz => ?_, fun i j z t q hi hj mz mt ai aj => ?_, fun q hq => ?_⟩
  · unfold L2.start envB
    simp [r.len]
  · rcases sl i z hz with ⟨rfl, rfl⟩ | ⟨j, d, rfl, hd, rfl⟩
    · exact ⟨.ref p, start_get rfl, p, rfl, nF, rfl, o⟩
    · obtain ⟨x, hx, rx⟩ := r.get hd
      exact ⟨x, start_get (by simpa using hx), rx⟩
  · rcases sl i z hi with ⟨rfl, rfl⟩ | ⟨j', d, rfl, hd, rfl⟩
    · rcases sl j t hj with ⟨rfl, rfl⟩ | ⟨j', d, rfl, hd, rfl⟩
      · rfl
      · cases mt
    · cases mz
  · obtain rfl : q = p := hq
    obtain ⟨x, hx⟩ := o.some
    rw [hx]
    exact fun z => nomatch z
end
section
variable {P : Program} {w : World} {K : PySem.W.Frag} {mg : Str → Option Value} {base : Heap} {x : Str} {st : Stmt} {ps N : List Str} {k : Nat} {g : DS}
abbrev W0 : WX := fun _ _ _ _ => False
abbrev WD (E : XK) : WX := fun cls d _ H => E cls d H
/-- a def that raises nothing, by its body -/
theorem Has.okD (D : Has K mg x st ps) (S : FnScope N ps (defScope st))
    (hb : ∀ (f : Addr) (cdv : Value) (A : Around) (outer : List Env) (s : Shared) (H : Hp) (E : XK) (F : Hp), Room k (A.deeper (envOfC x (defScope st) s.heap.objs.size f cdv)) → Fit (cxOf CX0 P w K mg base N x (defScope st) f cdv A outer s H E).nox ⟨K, mg, F, H, fun _ => False, W0, 0, "", false⟩ →
      PSs (cxOf CX0 P w K mg base N x (defScope st) f cdv A outer s H E).nox (defBody st) (tDS ⟨K, mg, F, H, fun _ => False, W0, 0, "", false⟩ g)) : Ok P w K mg base CX0 x st (k + 1) ps (sp0 K mg ps.length (bodyF N.length g)) := by
  obtain ⟨f, fd, F, gl, b⟩ := D
  refine ⟨f, fd, F, F.ok S (fun vs H Q E h => h.1) (fun cdv A outer s H vs Q E hr h => ?_), gl, b⟩
  obtain ⟨hl, Fz, ds, sm, r, h⟩ := h
  refine ⟨_, hb f cdv A outer s H E Fz hr ⟨rfl, rfl⟩, Fz, _, In.start sm r, ?_⟩
  unfold bodyF at h
  cases e : g (env0 N.length ds) with
  | no => rw [e] at h; exact h
  | er c fs z => rw [e] at h; exact h.elim
  | ok o =>
    rw [e] at h
    cases o with
    | nx z => exact fun σ F' H' I s => h _ F' H' (I.ext (N := N)) (show Rep K mg F' .non .non from rNon)
    | rt s z => exact fun v σ F' H' I _ r => h _ F' H' (I.ext (N := N)) r.out
    | bk z => exact h.elim
    | ct z => exact h.elim
/-- a def that may raise -/
theorem Has.okDX (D : Has K mg x st ps) (S : FnScope N ps (defScope st))
    (hb : ∀ (f : Addr) (cdv : Value) (A : Around) (outer : List Env) (s : Shared) (H : Hp) (E : XK) (F : Hp), Room k (A.deeper (envOfC x (defScope st) s.heap.objs.size f cdv)) → Fit (cxOf (L2.CX P w) P w K mg base N x (defScope st) f cdv A outer s H E) ⟨K, mg, F, H, fun _ => False, WD E, 0, "", true⟩ →
      PSs (cxOf (L2.CX P w) P w K mg base N x (defScope st) f cdv A outer s H E) (defBody st) (tDS ⟨K, mg, F, H, fun _ => False, WD E, 0, "", true⟩ g)) : Ok P w K mg base (L2.CX P w) x st (k + 1) ps (spP K mg ps.length (bodyF N.length g)) := by
  obtain ⟨f, fd, F, gl, b⟩ := D
  refine ⟨f, fd, F, F.okX S (fun vs H Q E h => h.1) (fun cdv A outer s H vs Q E hr h => ?_), gl, b⟩
  obtain ⟨hl, Fz, ds, sm, r, h⟩ := h
  refine ⟨_, hb f cdv A outer s H E Fz hr ⟨rfl, rfl⟩, Fz, _, In.start sm r, ?_⟩
  unfold bodyF at h
  cases e : g (env0 N.length ds) with
  | no => rw [e] at h; exact h
  | er c fs z => rw [e] at h; exact ⟨rfl, fun x σ F' H' I s k => h x F' H' (I.ext (N := N)) k⟩
  | ok o =>
    rw [e] at h
    cases o with
    | nx z => exact fun σ F' H' I s => h _ F' H' (I.ext (N := N)) (show Rep K mg F' .non .non from rNon)
    | rt s z => exact fun v σ F' H' I _ r => h _ F' H' (I.ext (N := N)) r.out
    | bk z => exact h.elim
    | ct z => exact h.elim
/-- a def that changes its first argument -/
theorem In.endB {F H F' H' : Hp} {p : Addr} {vs : List V} {W : WX} {rz : Bool} {e : DEnv} {σ : L2.St} {d : D} (I : In ⟨K, mg, F, H, fun q => q = p, W, 0, "", rz⟩ F' H' σ e) (hd : e[0]? = some (some (.bor d))) : ExtB p F H F' H' ∧ F' p = .none ∧ Own K mg F' H' d p := by
  obtain ⟨v, hv, q, rfl, h1, h2, h3⟩ := I.sl 0 _ hd
  obtain rfl : q = p := h2
  exact ⟨⟨I.f0, I.fh, fun a o h n => I.fr a o h n, I.nf⟩, h1, h3⟩
theorem Has.okB (D : Has K mg x st ps) (S : FnScope N ps (defScope st)) (hN : 0 < N.length)
    (hb : ∀ (f : Addr) (cdv : Value) (A : Around) (outer : List Env) (s : Shared) (H : Hp) (E : XK) (F : Hp) (p : Addr), Room k (A.deeper (envOfC x (defScope st) s.heap.objs.size f cdv)) → Fit (cxOf CX0 P w K mg base N x (defScope st) f cdv A outer s H E).nox ⟨K, mg, F, H, fun q => q = p, W0, 0, "", false⟩ →
      PSs (cxOf CX0 P w K mg base N x (defScope st) f cdv A outer s H E).nox (defBody st) (tDS ⟨K, mg, F, H, fun q => q = p, W0, 0, "", false⟩ g)) : Ok P w K mg base CX0 x st (k + 1) ps (spB K mg ps.length (bodyB N.length g)) := by
  obtain ⟨f, fd, F, gl, b⟩ := D
  refine ⟨f, fd, F, F.ok S (fun vs H Q E h => h.1) (fun cdv A outer s H vs Q E hr h => ?_), gl, b⟩
  obtain ⟨hl, Fz, d0, ds, p, vr, rfl, sm, nF, ow, r, h⟩ := h
  refine ⟨_, hb f cdv A outer s H E Fz p hr ⟨rfl, rfl⟩, Fz, _, In.startB hN sm nF ow r, ?_⟩
  unfold bodyB at h
  cases e : g (envB N.length (d0 :: ds)) with
  | no => rw [e] at h; exact h
  | er c fs z => rw [e] at h; exact h.elim
  | ok o =>
    rw [e] at h
    cases o with
    | nx z =>
      unfold outB at h
      cases e0 : z[0]? with
      | none => simp only [e0] at h
      | some q =>
        cases q with
        | none => simp only [e0] at h
        | some q =>
          cases q with
          | bor d =>
            simp only [e0] at h
            intro σ F' H' I s
            obtain ⟨x1, x2, x3⟩ := I.endB (vs := vr) e0
            exact h _ F' H' x1 x2 x3 (show Rep K mg F' .non .non from rNon)
          | frz d => simp only [e0] at h
          | exn c => simp only [e0] at h
          | own d => simp only [e0] at h
    | rt t z =>
      unfold outB at h
      cases e0 : z[0]? with
      | none => simp only [e0] at h
      | some q =>
        cases q with
        | none => simp only [e0] at h
        | some q =>
          cases q with
          | bor d =>
            simp only [e0] at h
            intro v σ F' H' I s r
            obtain ⟨x1, x2, x3⟩ := I.endB (vs := vr) e0
            exact h _ F' H' x1 x2 x3 r.out
          | frz d => simp only [e0] at h
          | exn c => simp only [e0] at h
          | own d => simp only [e0] at h
    | bk z => exact h.elim
    | ct z => exact h.elim
end
/-! ### calls -/
section
variable {C : Cd} {F H F' H' : Hp} {σ : L2.St} {env : DEnv}
theorem In.slotNe (I : In C F H σ env) {p : Addr} (n : H p = Option.none) : ∀ (i : Nat) (s : Sl), env[i]? = some (some s) → s.mut = true → σ[i]? ≠ some (some (.ref p)) := fun i s hi ms hz => by
  obtain ⟨v, hv, hs⟩ := I.sl i s hi
  rw [hv] at hz
  cases hz
  cases s with
  | frz d => cases ms
  | exn c => cases ms
  | own d =>
    obtain ⟨q, e, h1, h2, h3⟩ := hs
    cases e
    obtain ⟨o, ho⟩ := h3.some
    rw [ho] at n
    cases n
  | bor d =>
    obtain ⟨q, e, h1, h2, h3⟩ := hs
    cases e
    obtain ⟨o, ho⟩ := h3.some
    rw [ho] at n
    cases n
theorem In.resO (I : In C F H σ env) {s : Sl} {v : V} (r : ResO C.K C.mg F' H' H s v) : Res C F' H' env σ s v := by
  cases s with
  | frz d => exact r
  | exn c => exact r.elim
  | own d =>
    obtain ⟨p, rfl, h1, h2, h3⟩ := r
    exact ⟨p, rfl, h1, I.none0 h2, h3, I.slotNe h2⟩
  | bor d => exact r.elim
end
/-- a call of a def that may raise; one that must not -/
def callD (g : DF) (fs : List DE) : DE := fun env => (argsD fs env).bind fun p => match g p.1 with
  | .ok q => .ok (q.1, p.2)
  | .er c x _ => .er c x p.2
  | .no => .no
/-- a call that changes what slot i has -/
def callBD (g : DF) (i : Nat) (fs : List DE) : DE := fun env => match env[i]? with
  | some (some _) => (argsD fs env).bind fun p => match p.2[i]? with
    | some (some s) => (match s.mut, g (s.d :: p.1) with
      | true, .ok (r, [d]) => .ok (r, p.2.set i (some (s.put d)))
      | _, _ => .no)
    | _ => .no
  | _ => .no
section
variable {X : Cx} {C : Cd} {x : Str} {st : Stmt} {ps ks : List Str} {k : Nat} {e : Expr} {es : List Expr} {kws : List Keyword} {p pos : Pos} {g : DF} {fs : List DE}
theorem t_call0 {σ : L2.St} {H : Hp} {Q : VK} {n : Nat} {E : XK} (hn : fs.length = n) (hz : C.rz = false) : tD C (callD g fs) σ H Q → tDA C fs σ H fun vs H1 => sp0 C.K C.mg n g vs H1 Q E := fun ⟨F, env, I, h⟩ => ⟨F, env, I, by
  unfold callD at h
  cases ea : argsD fs env with
  | no => rw [ea] at h; exact h
  | er c fs z => rw [ea] at h; exact h
  | ok p =>
    rw [ea] at h
    intro F1 H1 I1 s1 vs rv
    refine ⟨by rw [rv.len, argsD_len ea]; exact hn, F1, p.1, I1.fh, rv, ?_⟩
    simp only [R.bind_ok] at h
    cases eg : g p.1 with
    | no => simp only [eg] at h; exact h.elim
    | er c fs z => simp only [eg] at h; have h1 := h.1; rw [hz] at h1; cases h1
    | ok q =>
      simp only [eg] at h
      exact fun v F' H' x r => h F' H' (I1.call x) (s1.trans x.ff) v (I1.resO r)⟩
theorem t_call {σ : L2.St} {H : Hp} {Q : VK} {n : Nat} (hn : fs.length = n) : tD C (callD g fs) σ H Q → tDA C fs σ H fun vs H1 => spP C.K C.mg n g vs H1 Q (WE C.W σ) := fun ⟨F, env, I, h⟩ => ⟨F, env, I, by
  unfold callD at h
  cases ea : argsD fs env with
  | no => rw [ea] at h; exact h
  | er c fs z => rw [ea] at h; exact h
  | ok p =>
    rw [ea] at h
    intro F1 H1 I1 s1 vs rv
    refine ⟨by rw [rv.len, argsD_len ea]; exact hn, F1, p.1, I1.fh, rv, ?_⟩
    simp only [R.bind_ok] at h
    cases eg : g p.1 with
    | no => simp only [eg] at h; exact h.elim
    | er c fs z => simp only [eg] at h; exact fun x F' H' xt er => h.2 x F' H' (I1.call xt) (s1.trans xt.ff) er
    | ok q =>
      simp only [eg] at h
      exact fun v F' H' x r => h F' H' (I1.call x) (s1.trans x.ff) v (I1.resO r)⟩
theorem qe_call (ft : Fit X C) (O : Ok X.prog X.w X.K X.mg X.base CX0 x st k ps (sp0 X.K X.mg ps.length g)) (hz : C.rz = false) (hr : Room k X.A) (hg : Gl X x) (ha : PA X (e :: es) (tDA C fs)) (hn : fs.length = ps.length := by rfl) (hdb : (x == ("__debug__" : Str)) = false := by decide) (he : starEach (e :: es) X.env = (false, eval e X.env) :: starEach es X.env := by rfl) (hpl : (backTo pos (starEach es X.env)).any (·.1) = false := by rfl) :
    PE X (.Call (.Name x p) (e :: es) [] pos) (tD C (callD g fs)) := by
  obtain ⟨f, fd, F, G, m, b⟩ := O
  refine PE.weak (pe_call G hr hg m F.kp b .nil pass0 ha hdb he hpl) fun σ H Q h => ?_
  have q := t_call0 (E := E0) hn hz h
  rw [← ft.k, ← ft.m] at q
  obtain ⟨F1, env, I, q⟩ := q
  exact ⟨F1, env, I, q.imp fun ds e F' H' I' s' k vs rv => by show sp0 X.K X.mg ps.length g (vs ++ []) H' Q E0; rw [List.append_nil]; exact k vs rv⟩
theorem qe_callX (ft : Fit X C) (O : Ok X.prog X.w X.K X.mg X.base (L2.CX X.prog X.w) x st k ps (spP X.K X.mg ps.length g)) (hr : Room k X.A) (hg : Gl X x) (tk : Takes X C.W) (ha : PA X (e :: es) (tDA C fs)) (hn : fs.length = ps.length := by rfl) (hdb : (x == ("__debug__" : Str)) = false := by decide) (he : starEach (e :: es) X.env = (false, eval e X.env) :: starEach es X.env := by rfl) (hpl : (backTo pos (starEach es X.env)).any (·.1) = false := by rfl) :
    PE X (.Call (.Name x p) (e :: es) [] pos) (tD C (callD g fs)) := by
  obtain ⟨f, fd, F, G, m, b⟩ := O
  refine PE.weak (pe_callS G hr hg m F.kp b (fun σ => passAt tk σ) ha hdb he hpl) fun σ H Q h => ?_
  have q := t_call hn h
  rw [← ft.k, ← ft.m] at q
  exact q
theorem In.callB {F H F' H' : Hp} {σ : L2.St} {env : DEnv} (I : In C F H σ env) {i : Nat} {s : Sl} {p : Addr} {d : D} (hi : env[i]? = some (some s)) (ms : s.mut = true) (hv : σ[i]? = some (some (.ref p))) (x : ExtB p F H F' H') (nF : F' p = Option.none) (o : Own C.K C.mg F' H' d p) : In C F' H' σ (env.set i (some (s.put d))) := by
  have hp : (C.H0 p = Option.none ∨ C.B p) ∧ ∃ o', H p = some o' := by
    obtain ⟨v, e, hs⟩ := I.sl i s hi
    rw [hv] at e
    cases e
    cases s with
    | frz d => cases ms
    | exn c => cases ms
    | own d =>
      obtain ⟨q, e, h1, h2, h3⟩ := hs
      cases e
      exact ⟨.inl h2, h3.some⟩
    | bor d =>
      obtain ⟨q, e, h1, h2, h3⟩ := hs
      cases e
      exact ⟨.inr h2, h3.some⟩
  obtain ⟨n0, o', hp⟩ := hp
  have free : ∀ q o, F q = Option.none → H q = some o → F' q = Option.none := fun q o h1 h2 => by
    cases e : F' q with
    | none => rfl
    | some z =>
      rcases x.nf q z e with h | h
      · rw [h1] at h; cases h
      · rw [h2] at h; cases h
  refine ⟨I.f0.trans x.ff, x.fh, fun a z h hb => ?_, fun a z h => ?_, by rw [List.length_set]; exact I.len, fun j t hj => ?_, fun j k t u q hj hk ms' mt aj ak => ?_, fun q hq => ?_⟩
  · have ne : a ≠ p := fun z => by
      rcases n0 with n0 | n0
      · rw [z, n0] at h; cases h
      · exact hb (z ▸ n0)
    exact x.hh _ _ (I.fr a z h hb) ne
  · rcases x.nf a z h with h | h
    · exact I.nf a z h
    · exact .inr (I.none0 h)
  · by_cases e : i = j
    · subst e
      obtain ⟨hl, es⟩ := set_self hj
      cases es
      refine ⟨.ref p, hv, ?_⟩
      obtain ⟨v, e, hs⟩ := I.sl i s hi
      rw [hv] at e
      cases e
      cases s with
      | frz d => cases ms
      | exn c => cases ms
      | own d =>
        obtain ⟨q, e, h1, h2, h3⟩ := hs
        cases e
        exact ⟨p, rfl, nF, h2, o⟩
      | bor d =>
        obtain ⟨q, e, h1, h2, h3⟩ := hs
        cases e
        exact ⟨p, rfl, nF, h2, o⟩
    · rw [List.getElem?_set_ne e] at hj
      obtain ⟨v, ev, hs⟩ := I.sl j t hj
      refine ⟨v, ev, ?_⟩
      cases t with
      | frz d => exact Rep.mono x.ff hs
      | exn c => exact hs
      | own d =>
        obtain ⟨q, e1, h1, h2, h3⟩ := hs
        obtain ⟨w, hw⟩ := h3.some
        have nq : q ≠ p := fun z => e (I.ds i j s _ p hi hj ms rfl hv (by rw [ev, e1, z]))
        exact ⟨q, e1, free q w h1 hw, h2, h3.keep x.ff fun o h => x.hh _ _ h nq⟩
      | bor d =>
        obtain ⟨q, e1, h1, h2, h3⟩ := hs
        obtain ⟨w, hw⟩ := h3.some
        have nq : q ≠ p := fun z => e (I.ds i j s _ p hi hj ms rfl hv (by rw [ev, e1, z]))
        exact ⟨q, e1, free q w h1 hw, h2, h3.keep x.ff fun o h => x.hh _ _ h nq⟩
  · have mo : ∀ {j : Nat} {t : Sl}, (env.set i (some (s.put d)))[j]? = some (some t) → t.mut = true → ∃ t', env[j]? = some (some t') ∧ t'.mut = true := by
      intro j t hj mt
      by_cases e : i = j
      · subst e
        exact ⟨s, hi, ms⟩
      · rw [List.getElem?_set_ne e] at hj
        exact ⟨t, hj, mt⟩
    obtain ⟨t', h1, h2⟩ := mo hj ms'
    obtain ⟨u', h3, h4⟩ := mo hk mt
    exact I.ds j k t' u' q h1 h3 h2 h4 aj ak
  · obtain ⟨w, hw⟩ := o.some
    by_cases e : q = p
    · rw [e, hw]; exact fun z => nomatch z
    · cases eh : H q with
      | none => exact absurd eh (I.bs q hq)
      | some z => rw [x.hh _ _ eh e]; exact fun z => nomatch z
theorem In.slotNe2 {F H : Hp} {σ : L2.St} {env : DEnv} (I : In C F H σ env) {p : Addr} (n : H p = Option.none) {i : Nat} {s : Sl} {d : D} (hi : env[i]? = some (some s)) : ∀ (j : Nat) (t : Sl), (env.set i (some (s.put d)))[j]? = some (some t) → t.mut = true → σ[j]? ≠ some (some (.ref p)) := fun j t hj mt => by
  by_cases e : i = j
  · subst e
    obtain ⟨hl, es⟩ := set_self hj
    cases es
    refine I.slotNe n i s hi ?_
    cases s <;> first | exact mt | rfl
  · rw [List.getElem?_set_ne e] at hj
    exact I.slotNe n j t hj mt
theorem Res.putB {F F' H H' : Hp} {σ : L2.St} {env : DEnv} (I : In C F H σ env) {i : Nat} {s r : Sl} {d : D} {v : V} (hi : env[i]? = some (some s)) (h : ResO C.K C.mg F' H' H r v) : Res C F' H' (env.set i (some (s.put d))) σ r v := by
  cases r with
  | frz d => exact h
  | exn c => exact h.elim
  | own d =>
    obtain ⟨p, rfl, h1, h2, h3⟩ := h
    exact ⟨p, rfl, h1, I.none0 h2, h3, I.slotNe2 h2 hi⟩
  | bor d => exact h.elim
theorem t_callB {σ : L2.St} {H : Hp} {Q : VK} {n i : Nat} {E : XK} (hn : fs.length + 1 = n) : tD C (callBD g i fs) σ H Q → ∃ v, σ[i]? = some (some v) ∧ tDA C fs σ H fun vs H1 => spB C.K C.mg n g (v :: vs) H1 Q E := fun ⟨F, env, I, h⟩ => by
  unfold callBD at h
  cases ei : env[i]? with
  | none => rw [ei] at h; exact h.elim
  | some z =>
    cases z with
    | none => rw [ei] at h; exact h.elim
    | some s0 =>
      rw [ei] at h
      obtain ⟨v, hv, _⟩ := I.sl i s0 ei
      refine ⟨v, hv, F, env, I, ?_⟩
      cases ea : argsD fs env with
      | no => simp only [ea] at h; exact h.elim
      | er c fs z => simp only [ea] at h; exact h
      | ok p =>
        simp only [ea, R.bind_ok] at h
        intro F1 H1 I1 s1 vs rv
        cases e1 : p.2[i]? with
        | none => simp only [e1] at h; exact h.elim
        | some z =>
          cases z with
          | none => simp only [e1] at h; exact h.elim
          | some s =>
            simp only [e1] at h
            obtain ⟨v', hv', sv⟩ := I1.sl i s e1
            rw [hv] at hv'
            cases hv'
            cases s with
            | frz d => simp only [Sl.mut] at h; exact h.elim
            | exn c => simp only [Sl.mut] at h; exact h.elim
            | own d =>
              obtain ⟨q, rfl, h1, h2, h3⟩ := sv
              refine ⟨by rw [List.length_cons, rv.len, argsD_len ea]; exact hn, F1, d, p.1, q, vs, rfl, I1.fh, h1, h3, rv, ?_⟩
              simp only [Sl.mut, Sl.d] at h
              cases eg : g (d :: p.1) with
              | no => simp only [eg] at h; exact h.elim
              | er c fs z => simp only [eg] at h; exact h.elim
              | ok r =>
                obtain ⟨r, ds⟩ := r
                cases ds with
                | nil => simp only [eg] at h; exact h.elim
                | cons d' t =>
                  cases t with
                  | nil =>
                    simp only [eg] at h
                    exact fun w F' H' x nF o rr => h F' H' (I1.callB e1 rfl hv x nF o) (s1.trans x.ff) w (Res.putB I1 e1 rr)
                  | cons a b => simp only [eg] at h; exact h.elim
            | bor d =>
              obtain ⟨q, rfl, h1, h2, h3⟩ := sv
              refine ⟨by rw [List.length_cons, rv.len, argsD_len ea]; exact hn, F1, d, p.1, q, vs, rfl, I1.fh, h1, h3, rv, ?_⟩
              simp only [Sl.mut, Sl.d] at h
              cases eg : g (d :: p.1) with
              | no => simp only [eg] at h; exact h.elim
              | er c fs z => simp only [eg] at h; exact h.elim
              | ok r =>
                obtain ⟨r, ds⟩ := r
                cases ds with
                | nil => simp only [eg] at h; exact h.elim
                | cons d' t =>
                  cases t with
                  | nil =>
                    simp only [eg] at h
                    exact fun w F' H' x nF o rr => h F' H' (I1.callB e1 rfl hv x nF o) (s1.trans x.ff) w (Res.putB I1 e1 rr)
                  | cons a b => simp only [eg] at h; exact h.elim
theorem qe_callB {i : Nat} (ft : Fit X C) (O : Ok X.prog X.w X.K X.mg X.base CX0 x st k ps (spB X.K X.mg ps.length g)) (hr : Room k X.A) (hg : Gl X x) (hv : PE X e (tVar i)) (ha : PA X es (tDA C fs)) (hn : fs.length + 1 = ps.length := by rfl) (hx : starEach (e :: es) X.env = (false, eval e X.env) :: starEach es X.env := by rfl) (hdb : (x == ("__debug__" : Str)) = false := by decide) (he : starEach (e :: es) X.env = (false, eval e X.env) :: starEach es X.env := by rfl) (hpl : (backTo pos (starEach es X.env)).any (·.1) = false := by rfl) :
    PE X (.Call (.Name x p) (e :: es) [] pos) (tD C (callBD g i fs)) := by
  obtain ⟨f, fd, F, G, m, b⟩ := O
  refine PE.weak (pe_call G hr hg m F.kp b .nil pass0 (pa_cons hv ha hx) hdb he hpl) fun σ H Q h => ?_
  have q := t_callB (E := E0) hn h
  rw [← ft.k, ← ft.m] at q
  obtain ⟨v, hv, F1, env, I, q⟩ := q
  exact ⟨v, hv, F1, env, I, q.imp fun ds e F' H' I' s' k vs rv => by show spB X.K X.mg ps.length g ((v :: vs) ++ []) H' Q E0; rw [List.append_nil]; exact k vs rv⟩
end
end Dd

namespace Dd
open PySem PySem.Spec PyProof.Rows L2
/-! ### operations -/
def lim : Nat := 16000000
theorem lim_le {n : Nat} (h : n ≤ lim) : n ≤ sizeLine := Nat.le_trans h (by decide)
theorem lim_lt {n : Nat} (h : n ≤ lim) : n < sizeLine := Nat.lt_of_le_of_lt h (by decide)
def gAdd : D → D → Option Sl
  | .int i, .int j => some (.frz (.int (i + j)))
  | .str i, .str j => if i.length + j.length ≤ lim then some (.frz (.str (i ++ j))) else none
  | .lst a, .lst b => if a.length + b.length ≤ lim then some (.own (.lst (a ++ b))) else none
  | .tup a, .tup b => if a ≠ [] ∧ a.length + b.length ≤ lim then some (.frz (.tup (a ++ b))) else none
  | _, _ => none
instance {a : List D} : Decidable (a ≠ []) := match a with
  | [] => isFalse fun h => h rfl
  | _ :: _ => isTrue fun h => nomatch h
def gInt (c : Int → Int → Bool) (f : Int → Int → D) : D → D → Option Sl
  | .int i, .int j => if c i j then some (.frz (f i j)) else none
  | _, _ => none
abbrev gSub := gInt (fun _ _ => true) fun i j => .int (i - j)
abbrev gLt := gInt (fun _ _ => true) fun i j => .bl (decide (i < j))
abbrev gLe := gInt (fun _ _ => true) fun i j => .bl (decide (i ≤ j))
abbrev gGt := gInt (fun _ _ => true) fun i j => .bl (decide (j < i))
abbrev gGe := gInt (fun _ _ => true) fun i j => .bl (decide (j ≤ i))
def mulOk (i j : Int) : Bool := decide ((-(2 ^ 64) < i ∧ i < 2 ^ 64) ∨ (-(2 ^ 64) < j ∧ j < 2 ^ 64)) || decide (i.natAbs.log2 + j.natAbs.log2 < 1000000)
def divOk (j : Int) : Bool := decide (0 < j) && decide (j.natAbs.log2 < 9000)
def powOk (i j : Int) : Bool := decide (0 ≤ j) && decide (j ≤ 1000000) && decide (i.natAbs < 2 ^ 64)
def gMul : D → D → Option Sl
  | .int i, .int j => if mulOk i j then some (.frz (.int (i * j))) else none
  | .lst a, .int k => if -(2 ^ 63) ≤ k ∧ k < 2 ^ 63 ∧ a.length * k.toNat ≤ lim then some (.own (.lst (List.replicate k.toNat a).flatten)) else none
  | _, _ => none
abbrev gDiv := gInt (fun _ j => divOk j) fun i j => .int (i / j)
abbrev gMod := gInt (fun _ j => decide (0 < j)) fun i j => .int (i % j)
abbrev gPow := gInt powOk fun i j => .int (i ^ j.toNat)
def gNeg : D → Option Sl
  | .int i => some (.frz (.int (-i)))
  | _ => none
def isN : D → Bool
  | .non => true
  | _ => false
def gIs (neg : Bool) : D → D → Option Sl
  | d, .non => some (.frz (.bl (neg != isN d)))
  | _, _ => none
section
variable {X : Cx} {C : Cd} {F H : Hp} {σ : L2.St} {env : DEnv}
theorem resInt {i : Int} : Res C F H env σ (.frz (.int i)) (.int i) := by show Rep _ _ _ _ _; exact rInt
theorem resBl {i : Bool} : Res C F H env σ (.frz (.bl i)) (.bl i) := by show Rep _ _ _ _ _; exact rBl
theorem resStr {i : Str} : Res C F H env σ (.frz (.str i)) (.str i) := by show Rep _ _ _ _ _; exact rStr
theorem resNon : Res C F H env σ (.frz .non) .non := by show Rep _ _ _ _ _; exact rNon
end
section
variable {X : Cx} {C : Cd}
theorem ok_int {c : Int → Int → Bool} {f : Int → Int → D} {P : Int → Int → Prop} {gv : Int → Int → V} (hp : ∀ i j, c i j = true → P i j) (hv : ∀ F i j, Rep C.K C.mg F (f i j) (gv i j)) : OpOk C (rI P gv) (gInt c f) := by
  intro F H σ env x y d e s Q I rx ry hg k
  unfold gInt at hg
  split at hg
  · rename_i i j
    cases hc : c i j with
    | false => simp [hc] at hg
    | true =>
      simp only [hc, if_true] at hg
      cases hg
      exact ⟨i, j, rx.int, ry.int, hp i j hc, k _ F H I (.refl _) (hv F i j)⟩
  · cases hg
theorem ok_int0 {f : Int → Int → D} {gv : Int → Int → V} (hv : ∀ F i j, Rep C.K C.mg F (f i j) (gv i j)) : OpOk C (rI0 gv) (gInt (fun _ _ => true) f) := by
  intro F H σ env x y d e s Q I rx ry hg k
  unfold gInt at hg
  split at hg
  · rename_i i j
    simp only [if_true] at hg
    cases hg
    exact ⟨i, j, rx.int, ry.int, k _ F H I (.refl _) (hv F i j)⟩
  · cases hg
theorem ok_sub : OpOk C (rI0 fun i j => .int (i - j)) gSub := ok_int0 fun _ _ _ => rInt
theorem ok_lt : OpOk C (rI0 fun i j => .bl (decide (i < j))) gLt := ok_int0 fun _ _ _ => rBl
theorem ok_le : OpOk C (rI0 fun i j => .bl (decide (i ≤ j))) gLe := ok_int0 fun _ _ _ => rBl
theorem ok_gt : OpOk C (rI0 fun i j => .bl (decide (j < i))) gGt := ok_int0 fun _ _ _ => rBl
theorem ok_ge : OpOk C (rI0 fun i j => .bl (decide (j ≤ i))) gGe := ok_int0 fun _ _ _ => rBl
def rAddA (K : PySem.W.Frag) : R2 := fun x y H Q => (rI0 fun i j => .int (i + j)) x y H Q ∨ (∃ i j, x = .str i ∧ y = .str j ∧ i.length + j.length ≤ sizeLine ∧ Q (.str (i ++ j)) H) ∨ rCat x y H Q ∨ rCatT K x y H Q
theorem op_addA (ft : Fit X C) : OpR X (binaryOp .Add) (rAddA C.K) := by
  rw [← ft.k]
  exact OpR.or op_add (OpR.or op_add_str (OpR.or op_cat op_catT))
theorem ok_add : OpOk C (rAddA C.K) gAdd := by
  intro F H σ env x y d e s Q I rx ry hg k
  unfold gAdd at hg
  split at hg
  · rename_i i j
    cases hg
    exact .inl ⟨i, j, rx.int, ry.int, k _ F H I (.refl _) resInt⟩
  · rename_i i j
    split at hg
    · rename_i h
      cases hg
      exact .inr (.inl ⟨i, j, rx.str, ry.str, lim_le h, k _ F H I (.refl _) resStr⟩)
    · cases hg
  · rename_i a b
    split at hg
    · rename_i h
      cases hg
      obtain ⟨p, xs, rfl, h1, h2⟩ := rx.lst
      obtain ⟨q, ys, rfl, h3, h4⟩ := ry.lst
      refine .inr (.inr (.inl ⟨p, q, xs, ys, rfl, rfl, I.fh _ _ h1, I.fh _ _ h3, by rw [h2.len, h4.len]; exact lim_le h, fun l nl => ?_⟩))
      obtain ⟨I2, fr⟩ := I.newList nl (h2.app h4)
      exact k _ _ _ I2 (.refl _) ⟨l, rfl, fr⟩
    · cases hg
  · rename_i a b
    split at hg
    · rename_i h
      cases hg
      obtain ⟨p, xs, rfl, h1, h2⟩ := rx.tup
      obtain ⟨q, ys, rfl, h3, h4⟩ := ry.tup
      refine .inr (.inr (.inr ⟨p, q, xs, ys, rfl, rfl, sameT I.fh h1, sameT I.fh h3, ?_, by rw [h2.len, h4.len]; exact lim_le h.2, fun hy => ?_, fun _ l nl => ?_⟩))
      · intro z
        have := h2.len
        rw [z] at this
        exact h.1 (List.eq_nil_of_length_eq_zero this.symm)
      · have hb : b = [] := by
          have := h4.len
          rw [hy] at this
          exact List.eq_nil_of_length_eq_zero this.symm
        subst hb
        rw [List.append_nil] at k
        refine k _ _ _ I (.refl _) ?_
        show Rep _ _ _ _ _
        unfold Rep
        exact ⟨p, xs, rfl, h1, h2⟩
      · have sF := I.same (o := .tup (xs ++ ys)) nl
        exact k _ _ _ (I.alloc nl) sF (Rep.ofTup upd_same ((h2.app h4).mono sF))
    · cases hg
  · cases hg
def rMulA : R2 := fun x y H Q => (rI CMul fun i j => .int (i * j)) x y H Q ∨ (rI CMulW fun i j => .int (i * j)) x y H Q ∨ rRep x y H Q
theorem op_mulA : OpR X (binaryOp .Mult) rMulA := OpR.or op_mul (OpR.or op_mulW op_rep)
theorem RepL.rep {K : PySem.W.Frag} {mg : Str → Option Value} {H : Hp} {ds : List D} {xs : List V} (h : RepL K mg H ds xs) : ∀ n : Nat, RepL K mg H (List.replicate n ds).flatten (List.replicate n xs).flatten
  | 0 => by simpa using repNil
  | n + 1 => by
    rw [List.replicate_succ, List.replicate_succ, List.flatten_cons, List.flatten_cons]
    exact h.app (RepL.rep h n)
theorem ok_mul : OpOk C rMulA gMul := by
  intro F H σ env x y d e s Q I rx ry hg k
  unfold gMul at hg
  split at hg
  · rename_i i j
    split at hg
    · rename_i h
      cases hg
      unfold mulOk at h
      rw [Bool.or_eq_true] at h
      rcases h with h | h
      · have h' := of_decide_eq_true h
        exact .inl ⟨i, j, rx.int, ry.int, h', k _ F H I (.refl _) resInt⟩
      · have h' := of_decide_eq_true h
        exact .inr (.inl ⟨i, j, rx.int, ry.int, h', k _ F H I (.refl _) resInt⟩)
    · cases hg
  · rename_i a b
    split at hg
    · rename_i h
      cases hg
      obtain ⟨p, xs, rfl, h1, h2⟩ := rx.lst
      refine .inr (.inr ⟨p, b, xs, rfl, ry.int, I.fh _ _ h1, h.1, h.2.1, by rw [h2.len]; exact lim_le h.2.2, fun l nl => ?_⟩)
      obtain ⟨I2, fr⟩ := I.newList nl (h2.rep b.toNat)
      exact k _ _ _ I2 (.refl _) ⟨l, rfl, fr⟩
    · cases hg
  · cases hg
theorem ok_div : OpOk C (rI CDivW fun i j => .int (i / j)) gDiv := ok_int (fun i j h => by
  unfold divOk at h
  rw [Bool.and_eq_true] at h
  exact ⟨of_decide_eq_true h.1, of_decide_eq_true h.2⟩) (fun _ _ _ => rInt)
theorem ok_mod : OpOk C (rI (fun _ j => 0 < j) fun i j => .int (i % j)) gMod := ok_int (fun i j h => of_decide_eq_true h) (fun _ _ _ => rInt)
theorem ok_pow : OpOk C (rI CPow fun i j => .int (i ^ j.toNat)) gPow := ok_int (fun i j h => by
  unfold powOk at h
  rw [Bool.and_eq_true, Bool.and_eq_true] at h
  exact ⟨of_decide_eq_true h.1.1, of_decide_eq_true h.1.2, of_decide_eq_true h.2⟩) (fun _ _ _ => rInt)
theorem ok_neg : UnOk C (rU fun i => .int (-i)) gNeg := by
  intro F H σ env x d s Q I rx hg k
  unfold gNeg at hg
  split at hg
  · rename_i i
    cases hg
    exact ⟨i, rx.int, k _ F H I (.refl _) resInt⟩
  · cases hg
theorem rep_isN {K : PySem.W.Frag} {mg : Str → Option Value} {H : Hp} {d : D} {x : V} (r : Rep K mg H d x) : decide (x = .non) = isN d := by
  cases d <;> unfold Rep at r <;> first
    | (subst r; rfl)
    | (obtain ⟨a, xs, rfl, _⟩ := r; rfl)
    | (obtain ⟨a, rfl, _⟩ := r; rfl)
    | (obtain ⟨a, dx, xs, rfl, _⟩ := r; rfl)
theorem ok_is : OpOk C (fun x y H Q => y = .non ∧ Q (.bl (decide (x = .non))) H) (gIs false) := by
  intro F H σ env x y d e s Q I rx ry hg k
  unfold gIs at hg
  split at hg
  · cases hg
    refine ⟨ry.non, ?_⟩
    rw [rep_isN rx]
    refine k _ F H I (.refl _) ?_
    have : (false != isN d) = isN d := by cases isN d <;> rfl
    rw [this]
    exact resBl
  · cases hg
theorem ok_isNot : OpOk C (fun x y H Q => y = .non ∧ Q (.bl (!decide (x = .non))) H) (gIs true) := by
  intro F H σ env x y d e s Q I rx ry hg k
  unfold gIs at hg
  split at hg
  · cases hg
    refine ⟨ry.non, ?_⟩
    rw [rep_isN rx]
    refine k _ F H I (.refl _) ?_
    have : (true != isN d) = !isN d := by cases isN d <;> rfl
    rw [this]
    exact resBl
  · cases hg
end
end Dd

namespace Dd
open PySem PySem.Spec PyProof.Rows L2
/-! ### == -/
mutual
def toPy : D → Option PyData
  | .non => some .none
  | .bl b => some (.bool b)
  | .int i => some (.int i)
  | .str x => some (.str x)
  | .lst ds => (toPyL ds).map .list
  | .tup ds => (toPyL ds).map .tuple
  | .scr ns => some (.list (ns.map .int))
  | _ => none
def toPyL : List D → Option (List PyData)
  | [] => some []
  | d :: ds => match toPy d, toPyL ds with
    | some p, some ps => some (p :: ps)
    | _, _ => none
end
section
variable {K : PySem.W.Frag} {mg : Str → Option Value} {H : Hp}
theorem dpInts : ∀ ns : List Int, DpAll K H (ns.map V.int) (ns.map PyData.int)
  | [] => .nil
  | n :: r => .cons (.int n) (dpInts r)
mutual
theorem rep_dp : ∀ {d : D} {v : V} {p : PyData}, Rep K mg H d v → toPy d = some p → Dp K H v p
  | .non, v, p, r, e => by rw [r.non]; unfold toPy at e; cases e; exact .non
  | .bl b, v, p, r, e => by rw [r.bl]; unfold toPy at e; cases e; exact .bl b
  | .int b, v, p, r, e => by rw [r.int]; unfold toPy at e; cases e; exact .int b
  | .str b, v, p, r, e => by rw [r.str]; unfold toPy at e; cases e; exact .str b
  | .lst ds, v, p, r, e => by
    obtain ⟨a, xs, rfl, h1, h2⟩ := r.lst
    unfold toPy at e
    cases e2 : toPyL ds with
    | none => rw [e2] at e; cases e
    | some ps => rw [e2] at e; cases e; exact .lst (.inl (.inl h1)) (rep_dpL h2 e2)
  | .tup ds, v, p, r, e => by
    obtain ⟨a, xs, rfl, h1, h2⟩ := r.tup
    unfold toPy at e
    cases e2 : toPyL ds with
    | none => rw [e2] at e; cases e
    | some ps => rw [e2] at e; cases e; exact .tup h1 (rep_dpL h2 e2)
  | .scr ns, v, p, r, e => by
    obtain ⟨a, rfl, h1⟩ := r.scr
    unfold toPy at e
    cases e
    exact .lst h1 (dpInts ns)
  | .dK _ _, v, p, r, e => by unfold toPy at e; cases e
  | .dT _ _, v, p, r, e => by unfold toPy at e; cases e
  | .obj _ _ _, v, p, r, e => by unfold toPy at e; cases e
  | .ty _, v, p, r, e => by unfold toPy at e; cases e
  | .cls _, v, p, r, e => by unfold toPy at e; cases e
theorem rep_dpL : ∀ {ds : List D} {vs : List V} {ps : List PyData}, RepL K mg H ds vs → toPyL ds = some ps → DpAll K H vs ps
  | [], vs, ps, r, e => by rw [r.nil]; unfold toPyL at e; cases e; exact .nil
  | d :: ds, vs, ps, r, e => by
    obtain ⟨x, xs, rfl, h1, h2⟩ := r.cons
    unfold toPyL at e
    cases e1 : toPy d with
    | none => rw [e1] at e; cases e
    | some p =>
      cases e2 : toPyL ds with
      | none => rw [e1, e2] at e; cases e
      | some qs => rw [e1, e2] at e; cases e; exact .cons (rep_dp h1 e1) (rep_dpL h2 e2)
end
end
def plain (d : D) : Bool := match toPy d with
  | some p => SeqAt.shaped p
  | none => false
def pyEq (a b : D) : Bool := match toPy a, toPy b with
  | some p, some q => PyData.eqv p q
  | _, _ => false
def gEq (neg : Bool) (a b : D) : Option Sl := if plain a && plain b then some (.frz (.bl (neg != pyEq a b))) else none
section
variable {X : Cx} {C : Cd}
theorem plain_of {d : D} (h : plain d = true) : ∃ p, toPy d = some p ∧ SeqAt.shaped p = true := by
  unfold plain at h
  cases e : toPy d with
  | none => rw [e] at h; cases h
  | some p => rw [e] at h; exact ⟨p, rfl, h⟩
theorem ok_eq : OpOk C (rEqD C.K) (gEq false) := by
  intro F H σ env x y d e s Q I rx ry hg k
  unfold gEq at hg
  split at hg
  · rename_i h
    rw [Bool.and_eq_true] at h
    cases hg
    obtain ⟨p, e1, s1⟩ := plain_of h.1
    obtain ⟨q, e2, s2⟩ := plain_of h.2
    refine ⟨p, q, rep_dp (rx.mono I.fh) e1, rep_dp (ry.mono I.fh) e2, s1, s2, k _ F H I (.refl _) ?_⟩
    have pe : pyEq d e = PyData.eqv p q := by unfold pyEq; rw [e1, e2]
    have : (false != pyEq d e) = PyData.eqv p q := by rw [pe]; cases PyData.eqv p q <;> rfl
    rw [this]
    exact resBl
  · cases hg
theorem ok_ne : OpOk C (rNeD C.K) (gEq true) := by
  intro F H σ env x y d e s Q I rx ry hg k
  unfold gEq at hg
  split at hg
  · rename_i h
    rw [Bool.and_eq_true] at h
    cases hg
    obtain ⟨p, e1, s1⟩ := plain_of h.1
    obtain ⟨q, e2, s2⟩ := plain_of h.2
    refine ⟨p, q, rep_dp (rx.mono I.fh) e1, rep_dp (ry.mono I.fh) e2, s1, s2, k _ F H I (.refl _) ?_⟩
    have pe : pyEq d e = PyData.eqv p q := by unfold pyEq; rw [e1, e2]
    have : (true != pyEq d e) = !PyData.eqv p q := by rw [pe]; cases PyData.eqv p q <;> rfl
    rw [this]
    exact resBl
  · cases hg
theorem op_eqA (ft : Fit X C) (hu : X.A.units + 64 < cLine) : OpR X (compareOp .Eq) (rEqD C.K) := by rw [← ft.k]; exact op_eqD hu
theorem op_neA (ft : Fit X C) (hu : X.A.units + 64 < cLine) : OpR X (compareOp .NotEq) (rNeD C.K) := by rw [← ft.k]; exact op_neD hu
end
/-! ### in -/
def flatD : D → Bool
  | .non => true
  | .bl _ => true
  | .int _ => true
  | .str _ => true
  | _ => false
def eqF : D → D → Bool
  | .non, .non => true
  | .bl a, .bl b => a == b
  | .bl a, .int b => (if a then 1 else 0) == b
  | .int a, .bl b => a == (if b then 1 else 0)
  | .int a, .int b => a == b
  | .str a, .str b => a == b
  | _, _ => false
theorem rep_flat {K : PySem.W.Frag} {mg : Str → Option Value} {H : Hp} {d : D} {v : V} (r : Rep K mg H d v) (h : flatD d = true) : flatV v = true := by
  cases d <;> first | (cases h; done) | skip
  · rw [r.non]; rfl
  · rw [r.bl]; rfl
  · rw [r.int]; rfl
  · rw [r.str]; rfl
theorem rep_eqF {K : PySem.W.Frag} {mg : Str → Option Value} {H : Hp} {d e : D} {v w : V} (r : Rep K mg H d v) (r' : Rep K mg H e w) (h : flatD d = true) (h' : flatD e = true) : eqV v w = eqF d e := by
  cases d <;> first | (cases h; done) | skip
  all_goals (cases e <;> first | (cases h'; done) | skip)
  all_goals first
    | rw [r.non] | rw [r.bl] | rw [r.int] | rw [r.str]
  all_goals first
    | rw [r'.non] | rw [r'.bl] | rw [r'.int] | rw [r'.str]
  all_goals rfl
theorem rep_inV {K : PySem.W.Frag} {mg : Str → Option Value} {H : Hp} {d : D} {v : V} (r : Rep K mg H d v) (h : flatD d = true) : ∀ {ds : List D} {vs : List V}, RepL K mg H ds vs → ds.all flatD = true → vs.all flatV = true ∧ inV v vs = ds.any fun e => eqF e d
  | [], vs, rl, _ => by rw [rl.nil]; exact ⟨rfl, rfl⟩
  | e :: ds, vs, rl, ha => by
    obtain ⟨x, xs, rfl, h1, h2⟩ := rl.cons
    rw [List.all_cons, Bool.and_eq_true] at ha
    obtain ⟨i1, i2⟩ := rep_inV r h h2 ha.2
    refine ⟨?_, ?_⟩
    · rw [List.all_cons, rep_flat h1 ha.1, i1]; rfl
    · unfold inV at i2 ⊢
      rw [List.any_cons, List.any_cons, i2, rep_eqF h1 r ha.1 h]
def gIn (neg : Bool) : D → D → Option Sl
  | d, .lst ds => if flatD d && ds.all flatD then some (.frz (.bl (neg != ds.any fun e => eqF e d))) else none
  | d, .tup ds => if flatD d && ds.all flatD then some (.frz (.bl (neg != ds.any fun e => eqF e d))) else none
  | .str x, .str z => if x.cps.size = 1 then some (.frz (.bl (neg != decide (x.cps.getD 0 0 ∈ z.cps.toList)))) else none
  | _, _ => none
section
variable {X : Cx} {C : Cd}
def rInA (K : PySem.W.Frag) (neg : Bool) : R2 := fun x y H Q => rIn K neg x y H Q ∨ ∃ (c : Nat) (z : Str), x = .str ⟨#[c]⟩ ∧ y = .str z ∧ Q (.bl (neg != decide (c ∈ z.cps.toList))) H
theorem op_inA (ft : Fit X C) : OpR X (compareOp .In) (rInA C.K false) := by
  rw [← ft.k]
  refine OpR.or op_in_seq fun pins s σ H x y v u Q I rx ry ⟨c, z, h1, h2, q⟩ => op_in_sign pins s σ H x y v u Q I rx ry ⟨c, z, h1, h2, ?_⟩
  have : (false != decide (c ∈ z.cps.toList)) = decide (c ∈ z.cps.toList) := by cases decide (c ∈ z.cps.toList) <;> rfl
  rw [← this]
  exact q
theorem op_notInA (ft : Fit X C) : OpR X (compareOp .NotIn) (rInA C.K true) := by
  rw [← ft.k]
  refine OpR.or op_notIn_seq fun pins s σ H x y v u Q I rx ry ⟨c, z, h1, h2, q⟩ => op_notIn_sign pins s σ H x y v u Q I rx ry ⟨c, z, h1, h2, ?_⟩
  have : (true != decide (c ∈ z.cps.toList)) = !decide (c ∈ z.cps.toList) := by cases decide (c ∈ z.cps.toList) <;> rfl
  rw [← this]
  exact q
theorem neg_if (neg b : Bool) : (if neg = true then !b else b) = (neg != b) := by cases neg <;> cases b <;> rfl
theorem ok_in {neg : Bool} : OpOk C (rInA C.K neg) (gIn neg) := by
  intro F H σ env x y d e s Q I rx ry hg k
  unfold gIn at hg
  split at hg
  · split at hg
    · rename_i h
      rw [Bool.and_eq_true] at h
      cases hg
      obtain ⟨p, xs, rfl, h1, h2⟩ := ry.lst
      obtain ⟨i1, i2⟩ := rep_inV rx h.1 h2 h.2
      refine .inl ⟨p, xs, rfl, .inl (.inl (.inl (I.fh _ _ h1))), rep_flat rx h.1, i1, ?_⟩
      rw [i2, neg_if]
      exact k _ F H I (.refl _) resBl
    · cases hg
  · split at hg
    · rename_i h
      rw [Bool.and_eq_true] at h
      cases hg
      obtain ⟨p, xs, rfl, h1, h2⟩ := ry.tup
      obtain ⟨i1, i2⟩ := rep_inV rx h.1 h2 h.2
      refine .inl ⟨p, xs, rfl, .inr (sameT I.fh h1), rep_flat rx h.1, i1, ?_⟩
      rw [i2, neg_if]
      exact k _ F H I (.refl _) resBl
    · cases hg
  · rename_i w z
    split at hg
    · rename_i h
      cases hg
      refine .inr ⟨w.cps.getD 0 0, z, ?_, ry.str, k _ F H I (.refl _) resBl⟩
      rw [rx.str]
      obtain ⟨a⟩ := w
      obtain ⟨l⟩ := a
      simp at h
      match l, h with
      | [c], _ => rfl
    · cases hg
  · cases hg
end
/-! ### subscripts, slices, len -/
theorem RepL.atI {K : PySem.W.Frag} {mg : Str → Option Value} {H : Hp} {ds : List D} {xs : List V} {k : Int} {d : D} (r : RepL K mg H ds xs) (h : atI ds k = some d) : ∃ x, L2.atI xs k = some x ∧ Rep K mg H d x := by
  unfold L2.atI at h ⊢
  rw [r.len]
  cases e : ixN ds.length k with
  | none => rw [e] at h; cases h
  | some j =>
    rw [e] at h
    exact r.get h
theorem atI_map {α β : Type} (f : α → β) (xs : List α) (k : Int) : atI (xs.map f) k = (atI xs k).map f := by
  unfold atI
  rw [List.length_map]
  cases ixN xs.length k with
  | none => rfl
  | some j => simp
def gIx : D → D → Option Sl
  | .lst ds, .int k => (atI ds k).map .frz
  | .tup ds, .int k => (atI ds k).map .frz
  | .scr ns, .int k => (atI ns k).map fun i => .frz (.int i)
  | .str z, .int k => if z.length ≤ lim then (atI z.cps.toList k).map fun c => .frz (.str ⟨#[c]⟩) else none
  | _, _ => none
section
variable {X : Cx} {C : Cd} {a b e : Expr} {fa fb : DE} {pos : Pos}
theorem ok_ix : OpOk C (rIx C.K) gIx := by
  intro F H σ env x y d e s Q I rx ry hg k
  unfold gIx at hg
  split at hg
  · rename_i ds i
    cases e : atI ds i with
    | none => rw [e] at hg; cases hg
    | some z =>
      rw [e] at hg
      cases hg
      obtain ⟨p, xs, rfl, h1, h2⟩ := rx.lst
      obtain ⟨v, hv, rv⟩ := h2.atI e
      exact .inl ⟨p, xs, i, v, rfl, ry.int, .inl (.inl (I.fh _ _ h1)), hv, k _ F H I (.refl _) rv⟩
  · rename_i ds i
    cases e : atI ds i with
    | none => rw [e] at hg; cases hg
    | some z =>
      rw [e] at hg
      cases hg
      obtain ⟨p, xs, rfl, h1, h2⟩ := rx.tup
      obtain ⟨v, hv, rv⟩ := h2.atI e
      exact .inr (.inl ⟨p, xs, i, v, rfl, ry.int, sameT I.fh h1, hv, k _ F H I (.refl _) rv⟩)
  · rename_i ns i
    cases e : atI ns i with
    | none => rw [e] at hg; cases hg
    | some z =>
      rw [e] at hg
      cases hg
      obtain ⟨p, rfl, h1⟩ := rx.scr
      exact .inl ⟨p, _, i, .int z, rfl, ry.int, I.fh.seq h1, by rw [atI_map, e]; rfl, k _ F H I (.refl _) resInt⟩
  · rename_i z i
    split at hg
    · rename_i hz
      cases e : atI z.cps.toList i with
      | none => rw [e] at hg; cases hg
      | some c =>
        rw [e] at hg
        cases hg
        exact .inr (.inr ⟨z, i, c, rx.str, ry.int, lim_le hz, e, k _ F H I (.refl _) resStr⟩)
    · cases hg
  · cases hg
theorem ix_A (ft : Fit X C) : IxR X (rIx C.K) := by
  rw [← ft.k]
  exact IxR.or ix_list (IxR.or ix_tup ix_str)
theorem qe_ix (ft : Fit X C) (ha : PE X a (tD C fa)) (hb : PE X b (tD C fb)) (hs : PlainIx b := by exact fun _ _ => rfl) : PE X (.Subscript a b pos) (tD C (lift2 gIx fa fb)) :=
  PE.weak (pe_ix (ix_A ft) (qz ha) (qz hb) hs) fun _ _ _ h => t_op ok_ix h
/-- x[e], the name left as it is -/
def ixND (i : Nat) (fb : DE) : DE := fun env => match env[i]? with
  | some (some _) => (fb env).bind fun q => match q.2[i]? with
    | some (some s) => (match s.val with
      | some d => (match gIx d q.1.d with
        | some z => .ok (z, q.2)
        | none => .no)
      | none => .no)
    | _ => .no
  | _ => .no
/-- what a slot holds, read now -/
theorem In.peek {F H : Hp} {σ : L2.St} {env : DEnv} (I : In C F H σ env) {i : Nat} {s : Sl} {d0 : D} (hi : env[i]? = some (some s)) (hd0 : s.val = some d0) : ∃ v F', σ[i]? = some (some v) ∧ Same F F' ∧ Same F' H ∧ Rep C.K C.mg F' s.d v := by
  obtain ⟨v, hv, hs⟩ := I.sl i s hi
  cases s with
  | frz d => exact ⟨v, F, hv, .refl _, I.fh, hs⟩
  | exn c => cases hd0
  | own d =>
    obtain ⟨p, rfl, h1, h2, h3⟩ := hs
    obtain ⟨o, ho⟩ := h3.some
    refine ⟨_, upd F p o, hv, fun b x e => by rw [upd_ne (ne_of_none e h1)]; exact e, fun b x e => ?_, h3.rep ho h1⟩
    by_cases z : b = p
    · subst z; rw [upd_same] at e; cases e; exact ho
    · rw [upd_ne z] at e; exact I.fh _ _ e
  | bor d =>
    obtain ⟨p, rfl, h1, h2, h3⟩ := hs
    obtain ⟨o, ho⟩ := h3.some
    refine ⟨_, upd F p o, hv, fun b x e => by rw [upd_ne (ne_of_none e h1)]; exact e, fun b x e => ?_, h3.rep ho h1⟩
    by_cases z : b = p
    · subst z; rw [upd_same] at e; cases e; exact ho
    · rw [upd_ne z] at e; exact I.fh _ _ e
/-- an operation that reads its first operand as it stands now -/
def OpOkH (C : Cd) (r : R2) (g : D → D → Option Sl) : Prop := ∀ F H σ env x y d e s (Q : VK), In C F H σ env → Rep C.K C.mg H d x → Rep C.K C.mg F e y → g d e = some s →
  (∀ v F' H', In C F' H' σ env → Same F F' → Res C F' H' env σ s v → Q v H') → r x y H Q
def peek2 (g : D → D → Option Sl) (i : Nat) (fb : DE) : DE := fun env => match env[i]? with
  | some (some _) => (fb env).bind fun q => match q.2[i]? with
    | some (some s) => (match s.val with
      | some d => (match g d q.1.d with
        | some z => .ok (z, q.2)
        | none => .no)
      | none => .no)
    | _ => .no
  | _ => .no
theorem In.now {F H : Hp} {σ : L2.St} {env : DEnv} (I : In C F H σ env) {i : Nat} {s : Sl} {d0 : D} (hi : env[i]? = some (some s)) (hd : s.val = some d0) : ∃ v, σ[i]? = some (some v) ∧ Rep C.K C.mg H d0 v := by
  obtain ⟨v, F', h1, _, h2, h3⟩ := I.peek hi hd
  have e : s.d = d0 := by cases s <;> first | (cases hd; rfl) | cases hd
  rw [← e]
  exact ⟨v, h1, h3.mono h2⟩
theorem t_peek2 {r : R2} {g : D → D → Option Sl} (ok : OpOkH C r g) {i : Nat} {σ : L2.St} {H : Hp} {Q : VK} : tD C (peek2 g i fb) σ H Q → tOp r (tVar i) (tDz C fb) σ H Q := fun ⟨F, env, I, h⟩ => by
  unfold peek2 at h
  cases ei : env[i]? with
  | none => rw [ei] at h; exact h.elim
  | some z =>
    cases z with
    | none => rw [ei] at h; exact h.elim
    | some s0 =>
      rw [ei] at h
      obtain ⟨v, hv, _⟩ := I.sl i s0 ei
      refine ⟨v, hv, F, env, I, (Fin.bnd h).imp fun s e F1 H1 I1 s1 h1 y ry => ?_⟩
      cases e1 : e[i]? with
      | none => simp only [e1] at h1; exact h1.elim
      | some z =>
        cases z with
        | none => simp only [e1] at h1; exact h1.elim
        | some t =>
          simp only [e1] at h1
          cases ev : t.val with
          | none => simp only [ev] at h1; exact h1.elim
          | some d0 =>
          simp only [ev] at h1
          obtain ⟨v', hv', rv⟩ := I1.now e1 ev
          rw [hv] at hv'
          cases hv'
          cases eg : g d0 s.d with
          | none => simp only [eg] at h1; exact h1.elim
          | some w => simp only [eg] at h1; exact ok F1 H1 σ e v y _ _ w Q I1 rv ry eg fun u F' H' I' s' r' => h1 F' H' I' s' u r'
theorem ok_eqH : OpOkH C (rEqD C.K) (gEq false) := by
  intro F H σ env x y d e s Q I rx ry hg k
  unfold gEq at hg
  split at hg
  · rename_i h
    rw [Bool.and_eq_true] at h
    cases hg
    obtain ⟨p, e1, s1⟩ := plain_of h.1
    obtain ⟨q, e2, s2⟩ := plain_of h.2
    refine ⟨p, q, rep_dp rx e1, rep_dp (ry.mono I.fh) e2, s1, s2, k _ F H I (.refl _) ?_⟩
    have pe : pyEq d e = PyData.eqv p q := by unfold pyEq; rw [e1, e2]
    have : (false != pyEq d e) = PyData.eqv p q := by rw [pe]; cases PyData.eqv p q <;> rfl
    rw [this]
    exact resBl
  · cases hg
theorem ok_neH : OpOkH C (rNeD C.K) (gEq true) := by
  intro F H σ env x y d e s Q I rx ry hg k
  unfold gEq at hg
  split at hg
  · rename_i h
    rw [Bool.and_eq_true] at h
    cases hg
    obtain ⟨p, e1, s1⟩ := plain_of h.1
    obtain ⟨q, e2, s2⟩ := plain_of h.2
    refine ⟨p, q, rep_dp rx e1, rep_dp (ry.mono I.fh) e2, s1, s2, k _ F H I (.refl _) ?_⟩
    have pe : pyEq d e = PyData.eqv p q := by unfold pyEq; rw [e1, e2]
    have : (true != pyEq d e) = !PyData.eqv p q := by rw [pe]; cases PyData.eqv p q <;> rfl
    rw [this]
    exact resBl
  · cases hg
theorem qe_cmpN {i : Nat} {op : CmpOp} {r : R2} {g : D → D → Option Sl} (ho : OpR X (compareOp op) r) (ok : OpOkH C r g) (ha : PE X a (tVar i)) (hb : PE X b (tD C fb)) (hm : behindInMarks op b = false) : PE X (.Compare a [op] [b] pos) (tD C (peek2 g i fb)) :=
  PE.weak (pe_cmpR ho ha (qz hb) hm) fun _ _ _ h => t_peek2 ok h
theorem qt_cmpN {i : Nat} {op : CmpOp} {r : R2} {g : D → D → Option Sl} (ho : OpR X (compareOp op) r) (ok : OpOkH C r g) (ha : PE X a (tVar i)) (hb : PE X b (tD C fb)) (hm : behindInMarks op b = false) : PT X (.Compare a [op] [b] pos) (tDT C (boolT (peek2 g i fb))) :=
  PT.weak (pt_cmpR ho ha (qz hb) hm) fun _ _ _ h => t_peek2 ok (tz_t (t_bool h))
theorem qe_ixN {i : Nat} (ft : Fit X C) (ha : PE X a (tVar i)) (hb : PE X b (tD C fb)) (hs : PlainIx b := by exact fun _ _ => rfl) : PE X (.Subscript a b pos) (tD C (ixND i fb)) :=
  PE.weak (pe_ix (ix_A ft) ha (qz hb) hs) fun σ H Q ⟨F, env, I, h⟩ => by
    unfold ixND at h
    cases ei : env[i]? with
    | none => rw [ei] at h; exact h.elim
    | some z =>
      cases z with
      | none => rw [ei] at h; exact h.elim
      | some s0 =>
        rw [ei] at h
        obtain ⟨v, hv, _⟩ := I.sl i s0 ei
        refine ⟨v, hv, F, env, I, (Fin.bnd h).imp fun s e F1 H1 I1 s1 h1 y ry => ?_⟩
        cases e1 : e[i]? with
        | none => simp only [e1] at h1; exact h1.elim
        | some z =>
          cases z with
          | none => simp only [e1] at h1; exact h1.elim
          | some t =>
            simp only [e1] at h1
            obtain ⟨v', hv', rv⟩ := I1.sl i t e1
            rw [hv] at hv'
            cases hv'
            cases ev : t.val with
            | none => simp only [ev] at h1; exact h1.elim
            | some d0 =>
            simp only [ev] at h1
            cases eg : gIx d0 s.d with
            | none => simp only [eg] at h1; exact h1.elim
            | some w =>
              simp only [eg] at h1
              have own : ∀ p d, v = .ref p → d0 = d → Own C.K C.mg F1 H1 d p → rIx C.K v y H1 Q := by
                rintro p d rfl hd ho
                rw [hd] at eg
                cases d <;> first | (exact ho.elim) | (cases eg; done) | skip
                · rename_i ds
                  obtain ⟨xs, hx, hr⟩ := ho
                  cases hk : s.d with
                  | int k =>
                    rw [hk] at eg ry
                    cases ea : atI ds k with
                    | none => simp only [gIx, ea] at eg; cases eg
                    | some u =>
                      simp only [gIx, ea] at eg
                      cases eg
                      obtain ⟨x, hx', rx⟩ := hr.atI ea
                      exact .inl ⟨p, xs, k, x, rfl, ry.int, .inl (.inl hx), hx', h1 F1 H1 I1 (.refl _) x rx⟩
                  | _ => rw [hk] at eg; cases eg
              cases t with
              | frz d => cases ev; exact ok_ix F1 H1 σ e v y _ _ w Q I1 rv ry eg fun u F' H' I' s' r' => h1 F' H' I' s' u r'
              | exn c => cases ev
              | own d => cases ev; obtain ⟨p, rfl, _, _, ho⟩ := rv; exact own p _ rfl rfl ho
              | bor d => cases ev; obtain ⟨p, rfl, _, _, ho⟩ := rv; exact own p _ rfl rfl ho
end
end Dd

namespace Dd
open PySem PySem.Spec PyProof.Rows L2
/-! ### slices -/
def cutL {α : Type} (xs : List α) (lo hi : Option Int) : List α := (xs.drop (HT.sIx xs.length 0 lo)).take (HT.sIx xs.length xs.length hi - HT.sIx xs.length 0 lo)
abbrev DO := DEnv → R DEnv (Option Int × DEnv)
def partN : DO := fun env => .ok (none, env)
def partD (f : DE) : DO := fun env => (f env).bind fun p => match p.1.d with
  | .int i => .ok (some i, p.2)
  | _ => .no
def tDO (C : Cd) (f : DO) : TO := fun σ H Q => ∃ F env, In C F H σ env ∧ Fin C F σ (f env) fun o _ _ H' => Q o H'
def gSl (d : D) (lo hi : Option Int) : Option Sl := match d with
  | .lst ds => some (.own (.lst (cutL ds lo hi)))
  | .scr ns => some (.own (.lst ((cutL ns lo hi).map .int)))
  | .tup ds => if HT.sIx ds.length 0 lo = 0 ∧ HT.sIx ds.length ds.length hi = ds.length then none else some (.frz (.tup (cutL ds lo hi)))
  | .str z => if z.length ≤ lim then some (.frz (.str (cutS z lo hi))) else none
  | _ => none
def sliceD (fa : DE) (fl fh : DO) : DE := fun env => (fa env).bind fun p => (fl p.2).bind fun q => (fh q.2).bind fun r => match gSl p.1.d q.1 r.1 with
  | some s => .ok (s, r.2)
  | none => .no
section
variable {X : Cx} {C : Cd} {e a b : Expr} {es : List Expr} {f fa fb : DE} {fl fh : DO} {pos p2 : Pos} {lo hi : Option Expr}
theorem qo_none : PO X none (tDO C partN) := PO.weak po_none fun σ H Q ⟨F, env, I, h⟩ => h.here I
theorem qo_some (h : PE X e (tD C f)) : PO X (some e) (tDO C (partD f)) := PO.weak (po_some (qz h)) fun σ H Q ⟨F, env, I, h⟩ => ⟨F, env, I, (Fin.bnd h).imp fun s e F1 H1 I1 s1 h1 x rx => by
  cases ed : s.d with
  | int i => simp only [ed] at h1 rx; exact ⟨i, rx.int, h1.here I1⟩
  | _ => simp only [ed] at h1; exact h1.elim⟩
theorem RepL.cut {K : PySem.W.Frag} {mg : Str → Option Value} {H : Hp} {ds : List D} {xs : List V} (r : RepL K mg H ds xs) (l h : Option Int) : RepL K mg H (cutL ds l h) (cutV xs l h) := by
  unfold cutL cutV
  rw [r.len]
  exact (r.drop _).take _
def rSlA (K : PySem.W.Frag) : V → Option Int → Option Int → Hp → VK → Prop := fun x l h H Q => rSlL K x l h H Q ∨ rSlT K x l h H Q ∨ rSlS x l h H Q
theorem sl_A (ft : Fit X C) : SlR X (rSlA C.K) := by
  rw [← ft.k]
  exact SlR.or sl_list (SlR.or sl_tup sl_str)
theorem cutL_map {α β : Type} (g : α → β) (xs : List α) (l h : Option Int) : cutL (xs.map g) l h = (cutL xs l h).map g := by
  unfold cutL
  rw [List.length_map, List.map_take, List.map_drop]
theorem ok_sl {F H : Hp} {σ : L2.St} {env : DEnv} {x : V} {d : D} {l h : Option Int} {s : Sl} {Q : VK} (I : In C F H σ env) (rx : Rep C.K C.mg F d x) (hg : gSl d l h = some s)
    (k : ∀ v F' H', In C F' H' σ env → Same F F' → Res C F' H' env σ s v → Q v H') : rSlA C.K x l h H Q := by
  unfold gSl at hg
  split at hg
  · cases hg
    obtain ⟨p, xs, rfl, h1, h2⟩ := rx.lst
    refine .inl ⟨p, xs, rfl, .inl (.inl (I.fh _ _ h1)), fun q nq => ?_⟩
    obtain ⟨I2, fr⟩ := I.newList nq (h2.cut l h)
    exact k _ _ _ I2 (.refl _) ⟨q, rfl, fr⟩
  · rename_i ns
    cases hg
    obtain ⟨p, rfl, h1⟩ := rx.scr
    refine .inl ⟨p, _, rfl, I.fh.seq h1, fun q nq => ?_⟩
    have e : cutV (ns.map V.int) l h = (cutL ns l h).map V.int := cutL_map V.int ns l h
    rw [e]
    obtain ⟨I2, fr⟩ := I.newList nq (RepL.ints (K := C.K) (mg := C.mg) (H := F) (ns := cutL ns l h))
    exact k _ _ _ I2 (.refl _) ⟨q, rfl, fr⟩
  · rename_i ds
    split at hg
    · cases hg
    · rename_i hz
      cases hg
      obtain ⟨p, xs, rfl, h1, h2⟩ := rx.tup
      refine .inr (.inl ⟨p, xs, rfl, sameT I.fh h1, by rw [h2.len]; exact hz, fun q nq => ?_⟩)
      have sF := I.same (o := .tup (cutV xs l h)) nq
      exact k _ _ _ (I.alloc nq) sF (Rep.ofTup upd_same ((h2.cut l h).mono sF))
  · rename_i z
    split at hg
    · rename_i hz
      cases hg
      exact .inr (.inr ⟨z, rx.str, lim_le hz, k _ F H I (.refl _) resStr⟩)
    · cases hg
  · cases hg
theorem qe_slice (ft : Fit X C) (ha : PE X a (tD C fa)) (hl : PO X lo (tDO C fl)) (hh : PO X hi (tDO C fh)) : PE X (.Subscript a (.Slice lo hi none p2) pos) (tD C (sliceD fa fl fh)) :=
  PE.weak (pe_slice (sl_A ft) (qz ha) hl hh) fun σ H Q ⟨F, env, I, h⟩ => ⟨F, env, I, (Fin.bnd h).imp fun s e F1 H1 I1 s1 h1 x rx => ⟨F1, e, I1, (Fin.bnd h1).imp fun o e2 F2 H2 I2 s2 h2 => ⟨F2, e2, I2, (Fin.bnd h2).imp fun o' e3 F3 H3 I3 s3 h3 => by
    cases eg : gSl s.d o o' with
    | none => simp only [eg] at h3; exact h3.elim
    | some z => simp only [eg] at h3; exact ok_sl I3 (rx.mono (s2.trans s3)) eg fun v F' H' I' s' r' => h3 F' H' I' s' v r'⟩⟩⟩
end
/-! ### built-ins -/
def callG (g : List D → Option Sl) (fs : List DE) : DE := fun env => (argsD fs env).bind fun p => match g p.1 with
  | some s => .ok (s, p.2)
  | none => .no
def CaOk (C : Cd) (r : List V → Hp → VK → Prop) (g : List D → Option Sl) : Prop := ∀ F H σ env vs ds s (Q : VK), In C F H σ env → RepL C.K C.mg F ds vs → g ds = some s →
  (∀ v F' H', In C F' H' σ env → Same F F' → Res C F' H' env σ s v → Q v H') → r vs H Q
section
variable {X : Cx} {C : Cd} {e : Expr} {es : List Expr} {fs : List DE} {x : Str} {id T : String} {p pos : Pos}
theorem t_ca {r : List V → Hp → VK → Prop} {g : List D → Option Sl} (ok : CaOk C r g) {σ : L2.St} {H : Hp} {Q : VK} : tD C (callG g fs) σ H Q → tCB r (tDA C fs) σ H Q := fun ⟨F, env, I, h⟩ =>
  ⟨F, env, I, (Fin.bnd h).imp fun ds e F1 H1 I1 s1 h1 vs rv => by
    cases eg : g ds with
    | none => simp only [eg] at h1; exact h1.elim
    | some z => simp only [eg] at h1; exact ok F1 H1 σ e vs ds z Q I1 rv eg fun v F' H' I' s' r' => h1 F' H' I' s' v r'⟩
theorem qe_callB' {r : List V → Hp → VK → Prop} {g : List D → Option Sl} (hc : CallR X (.builtin id) r) (ok : CaOk C r g) (hg : Gl X x) (hm : X.mg x = none) (hv : bootBuiltins x = some (.builtin id)) (ha : PA X (e :: es) (tDA C fs)) (hn : x ≠ "__name__" := by decide) (hdb : (x == ("__debug__" : Str)) = false := by decide)
    (he : starEach (e :: es) X.env = (false, eval e X.env) :: starEach es X.env := by rfl) (hpl : (backTo pos (starEach es X.env)).any (·.1) = false := by rfl) : PE X (.Call (.Name x p) (e :: es) [] pos) (tD C (callG g fs)) :=
  PE.weak (pe_callB hc hg hm hv ha hn hdb he hpl) fun _ _ _ h => t_ca ok h
theorem qe_callT {r : List V → Hp → VK → Prop} {g : List D → Option Sl} (hc : CallR X (.type T) r) (ok : CaOk C r g) (hg : Gl X x) (hm : X.mg x = none) (hv : bootBuiltins x = some (.type T)) (ha : PA X (e :: es) (tDA C fs)) (hn : x ≠ "__name__" := by decide) (hdb : (x == ("__debug__" : Str)) = false := by decide)
    (he : starEach (e :: es) X.env = (false, eval e X.env) :: starEach es X.env := by rfl) (hpl : (backTo pos (starEach es X.env)).any (·.1) = false := by rfl) : PE X (.Call (.Name x p) (e :: es) [] pos) (tD C (callG g fs)) :=
  PE.weak (pe_callTy hc hg hm hv ha hn hdb he hpl) fun _ _ _ h => t_ca ok h
end

/-! ### each one's rule -/
def gLen : List D → Option Sl
  | [.lst ds] => some (.frz (.int ds.length))
  | [.tup ds] => some (.frz (.int ds.length))
  | [.scr ns] => some (.frz (.int ns.length))
  | [.str z] => if z.length ≤ lim then some (.frz (.int z.length)) else none
  | _ => none
def gMax2 : List D → Option Sl
  | [.int i, .int j] => some (.frz (.int (if j > i then j else i)))
  | _ => none
def gMin2 : List D → Option Sl
  | [.int i, .int j] => some (.frz (.int (if j < i then j else i)))
  | _ => none
def intsOf : List D → Option (List Int)
  | [] => some []
  | .int i :: r => (intsOf r).map (i :: ·)
  | _ => none
def boolsOf : List D → Option (List Bool)
  | [] => some []
  | .bl i :: r => (boolsOf r).map (i :: ·)
  | _ => none
def maxL : List Int → Int
  | [] => 0
  | [a] => a
  | a :: r => max a (maxL r)
def minL : List Int → Int
  | [] => 0
  | [a] => a
  | a :: r => min a (minL r)
def onInts (k : List Int → Option Sl) : List D → Option Sl
  | [.lst ds] => (intsOf ds).bind k
  | _ => none
def onBools (k : List Bool → Option Sl) : List D → Option Sl
  | [.lst ds] => (boolsOf ds).bind k
  | _ => none
abbrev gSum := onInts fun ns => some (.frz (.int ns.sum))
abbrev gMaxL := onInts fun ns => if ns = [] then none else some (.frz (.int (maxL ns)))
abbrev gMinL := onInts fun ns => if ns = [] then none else some (.frz (.int (minL ns)))
abbrev gAll := onBools fun bs => some (.frz (.bl (bs.all id)))
abbrev gAny := onBools fun bs => some (.frz (.bl (bs.any id)))
def gList : List D → Option Sl
  | [.lst ds] => some (.own (.lst ds))
  | [.tup ds] => some (.own (.lst ds))
  | [.scr ns] => some (.own (.lst (ns.map .int)))
  | _ => none
def gTuple : List D → Option Sl
  | [.lst ds] => some (.frz (.tup ds))
  | [.tup ds] => some (.frz (.tup ds))
  | _ => none
def gIntC : List D → Option Sl
  | [.int i] => some (.frz (.int i))
  | [.bl b] => some (.frz (.int (if b then 1 else 0)))
  | _ => none
def tyN : D → Option String
  | .non => some "NoneType"
  | .bl _ => some "bool"
  | .int _ => some "int"
  | .str _ => some "str"
  | .lst _ => some "list"
  | .tup _ => some "tuple"
  | .scr _ => some "list"
  | .dK _ _ => some "dict"
  | .dT _ _ => some "dict"
  | _ => none
def isiB (d : D) (t : String) : Option Bool := (tyN d).bind fun a => kitB a t
def gIsi : List D → Option Sl
  | [d, .ty t] => (isiB d t).map fun b => .frz (.bl b)
  | _ => none
def isiAny (d : D) : List String → Option Bool
  | [] => some false
  | t :: r => match isiB d t with
    | some true => some true
    | some false => isiAny d r
    | none => none
section
variable {X : Cx} {C : Cd} {F H : Hp} {K : PySem.W.Frag} {mg : Str → Option Value}
theorem rep1 {d : D} {vs : List V} (r : RepL K mg H [d] vs) : ∃ x, vs = [x] ∧ Rep K mg H d x := by
  obtain ⟨x, t, rfl, h1, h2⟩ := r.cons
  rw [h2.nil]
  exact ⟨x, rfl, h1⟩
theorem rep2 {d e : D} {vs : List V} (r : RepL K mg H [d, e] vs) : ∃ x y, vs = [x, y] ∧ Rep K mg H d x ∧ Rep K mg H e y := by
  obtain ⟨x, t, rfl, h1, h2⟩ := r.cons
  obtain ⟨y, rfl, h3⟩ := rep1 h2
  exact ⟨x, y, rfl, h1, h3⟩
theorem ints_of : ∀ {ds : List D} {xs : List V} {ns : List Int}, RepL K mg H ds xs → intsOf ds = some ns → xs = ns.map V.int
  | [], xs, ns, r, e => by rw [r.nil]; unfold intsOf at e; cases e; rfl
  | d :: ds, xs, ns, r, e => by
    obtain ⟨x, t, rfl, h1, h2⟩ := r.cons
    unfold intsOf at e
    split at e
    · rename_i q; cases q
    · rename_i q
      cases q
      cases e2 : intsOf ds with
      | none => rw [e2] at e; cases e
      | some ms => rw [e2] at e; cases e; rw [h1.int, ints_of h2 e2]; rfl
    · cases e
theorem bools_of : ∀ {ds : List D} {xs : List V} {ns : List Bool}, RepL K mg H ds xs → boolsOf ds = some ns → xs = ns.map V.bl
  | [], xs, ns, r, e => by rw [r.nil]; unfold boolsOf at e; cases e; rfl
  | d :: ds, xs, ns, r, e => by
    obtain ⟨x, t, rfl, h1, h2⟩ := r.cons
    unfold boolsOf at e
    split at e
    · rename_i q; cases q
    · rename_i q
      cases q
      cases e2 : boolsOf ds with
      | none => rw [e2] at e; cases e
      | some ms => rw [e2] at e; cases e; rw [h1.bl, bools_of h2 e2]; rfl
    · cases e
theorem ok_len : CaOk C (fun xs H Q => ∃ x n, xs = [x] ∧ LenV C.K x H n ∧ Q (.int n) H) gLen := by
  intro F H σ env vs ds s Q I r hg k
  unfold gLen at hg
  split at hg
  · obtain ⟨x, rfl, rx⟩ := rep1 r
    cases hg
    obtain ⟨p, xs, rfl, h1, h2⟩ := rx.lst
    exact ⟨_, _, rfl, .inl ⟨xs, .inl (.inl (I.fh _ _ h1)), rfl⟩, by rw [h2.len]; exact k _ F H I (.refl _) resInt⟩
  · obtain ⟨x, rfl, rx⟩ := rep1 r
    cases hg
    obtain ⟨p, xs, rfl, h1, h2⟩ := rx.tup
    exact ⟨_, _, rfl, .inr ⟨xs, sameT I.fh h1, rfl⟩, by rw [h2.len]; exact k _ F H I (.refl _) resInt⟩
  · rename_i ns
    obtain ⟨x, rfl, rx⟩ := rep1 r
    cases hg
    obtain ⟨p, rfl, h1⟩ := rx.scr
    exact ⟨_, _, rfl, .inl ⟨_, I.fh.seq h1, rfl⟩, by rw [List.length_map]; exact k _ F H I (.refl _) resInt⟩
  · obtain ⟨x, rfl, rx⟩ := rep1 r
    split at hg
    · rename_i hz
      cases hg
      rw [rx.str]
      exact ⟨_, _, rfl, ⟨lim_le hz, rfl⟩, k _ F H I (.refl _) resInt⟩
    · cases hg
  · cases hg
theorem ca_len (ft : Fit X C) : CallR X (.builtin "len") (fun xs H Q => ∃ x n, xs = [x] ∧ LenV C.K x H n ∧ Q (.int n) H) := by rw [← ft.k]; exact call_len
theorem ok_max2 : CaOk C (fun xs H Q => ∃ i j, xs = [.int i, .int j] ∧ Q (.int (if j > i then j else i)) H) gMax2 := by
  intro F H σ env vs ds s Q I r hg k
  unfold gMax2 at hg
  split at hg
  · rename_i i j
    cases hg
    obtain ⟨x, y, rfl, rx, ry⟩ := rep2 r
    rw [rx.int, ry.int]
    exact ⟨i, j, rfl, k _ F H I (.refl _) resInt⟩
  · cases hg
theorem ok_min2 : CaOk C (fun xs H Q => ∃ i j, xs = [.int i, .int j] ∧ Q (.int (if j < i then j else i)) H) gMin2 := by
  intro F H σ env vs ds s Q I r hg k
  unfold gMin2 at hg
  split at hg
  · rename_i i j
    cases hg
    obtain ⟨x, y, rfl, rx, ry⟩ := rep2 r
    rw [rx.int, ry.int]
    exact ⟨i, j, rfl, k _ F H I (.refl _) resInt⟩
  · cases hg
theorem ok_onInts {kk : List Int → Option Sl} {r : List V → Hp → VK → Prop} (h : ∀ F H σ env (Q : VK) a ns s, In C F H σ env → SqL C.K H a (ns.map V.int) → kk ns = some s → (∀ v F' H', In C F' H' σ env → Same F F' → Res C F' H' env σ s v → Q v H') → r [.ref a] H Q) : CaOk C r (onInts kk) := by
  intro F H σ env vs ds s Q I rr hg k
  unfold onInts at hg
  split at hg
  · rename_i zs
    cases e : intsOf zs with
    | none => rw [e] at hg; cases hg
    | some ns =>
      rw [e] at hg
      obtain ⟨x, rfl, rx⟩ := rep1 rr
      obtain ⟨p, xs, rfl, h1, h2⟩ := rx.lst
      rw [ints_of h2 e] at h1
      exact h F H σ env Q p ns s I (.inl (.inl (I.fh _ _ h1))) hg k
  · cases hg
theorem ok_onBools {kk : List Bool → Option Sl} {r : List V → Hp → VK → Prop} (h : ∀ F H σ env (Q : VK) a ns s, In C F H σ env → SqL C.K H a (ns.map V.bl) → kk ns = some s → (∀ v F' H', In C F' H' σ env → Same F F' → Res C F' H' env σ s v → Q v H') → r [.ref a] H Q) : CaOk C r (onBools kk) := by
  intro F H σ env vs ds s Q I rr hg k
  unfold onBools at hg
  split at hg
  · rename_i zs
    cases e : boolsOf zs with
    | none => rw [e] at hg; cases hg
    | some ns =>
      rw [e] at hg
      obtain ⟨x, rfl, rx⟩ := rep1 rr
      obtain ⟨p, xs, rfl, h1, h2⟩ := rx.lst
      rw [bools_of h2 e] at h1
      exact h F H σ env Q p ns s I (.inl (.inl (I.fh _ _ h1))) hg k
  · cases hg
theorem ok_sum : CaOk C (rSum C.K) gSum := ok_onInts fun F H σ env Q a ns s I hs hg k => by
  cases hg
  exact ⟨a, ns, rfl, hs, k _ F H I (.refl _) resInt⟩
theorem maxL_eq : ∀ {ns : List Int} {m : Int}, m ∈ ns → (∀ y, y ∈ ns → y ≤ m) → maxL ns = m
  | [a], m, h, _ => by simp at h; exact h.symm
  | a :: b :: r, m, h, hm => by
    unfold maxL
    have h1 : ∀ y, y ∈ b :: r → y ≤ m := fun y hy => hm y (List.mem_cons_of_mem _ hy)
    by_cases hr : m ∈ b :: r
    · rw [maxL_eq hr h1]
      have := hm a (by simp)
      omega
    · have ha : m = a := by
        rcases List.mem_cons.mp h with e | e
        · exact e
        · exact absurd e hr
      subst ha
      obtain ⟨z, hz, hz2⟩ : ∃ z, z ∈ b :: r ∧ ∀ y, y ∈ b :: r → y ≤ z := by
        clear hm h h1 hr
        induction r generalizing b with
        | nil => exact ⟨b, by simp, fun y hy => by simp at hy; omega⟩
        | cons c r ih =>
          obtain ⟨z, hz, hz2⟩ := ih c
          by_cases hb : b ≤ z
          · refine ⟨z, List.mem_cons_of_mem _ hz, fun y hy => ?_⟩
            rcases List.mem_cons.mp hy with e | e
            · omega
            · exact hz2 y e
          · refine ⟨b, by simp, fun y hy => ?_⟩
            rcases List.mem_cons.mp hy with e | e
            · omega
            · have := hz2 y e; omega
      rw [maxL_eq hz hz2]
      have := h1 z hz
      omega
theorem minL_eq : ∀ {ns : List Int} {m : Int}, m ∈ ns → (∀ y, y ∈ ns → m ≤ y) → minL ns = m
  | [a], m, h, _ => by simp at h; exact h.symm
  | a :: b :: r, m, h, hm => by
    unfold minL
    have h1 : ∀ y, y ∈ b :: r → m ≤ y := fun y hy => hm y (List.mem_cons_of_mem _ hy)
    by_cases hr : m ∈ b :: r
    · rw [minL_eq hr h1]
      have := hm a (by simp)
      omega
    · have ha : m = a := by
        rcases List.mem_cons.mp h with e | e
        · exact e
        · exact absurd e hr
      subst ha
      obtain ⟨z, hz, hz2⟩ : ∃ z, z ∈ b :: r ∧ ∀ y, y ∈ b :: r → z ≤ y := by
        clear hm h h1 hr
        induction r generalizing b with
        | nil => exact ⟨b, by simp, fun y hy => by simp at hy; omega⟩
        | cons c r ih =>
          obtain ⟨z, hz, hz2⟩ := ih c
          by_cases hb : z ≤ b
          · refine ⟨z, List.mem_cons_of_mem _ hz, fun y hy => ?_⟩
            rcases List.mem_cons.mp hy with e | e
            · omega
            · exact hz2 y e
          · refine ⟨b, by simp, fun y hy => ?_⟩
            rcases List.mem_cons.mp hy with e | e
            · omega
            · have := hz2 y e; omega
      rw [minL_eq hz hz2]
      have := h1 z hz
      omega
theorem ok_maxL : CaOk C (rMax C.K) gMaxL := ok_onInts fun F H σ env Q a ns s I hs hg k => by
  split at hg
  · cases hg
  · rename_i hn
    cases hg
    refine ⟨a, ns, rfl, hs, List.length_pos_iff.mpr hn, fun m h1 h2 => ?_⟩
    rw [← maxL_eq h1 h2]
    exact k _ F H I (.refl _) resInt
theorem ok_minL : CaOk C (rMin C.K) gMinL := ok_onInts fun F H σ env Q a ns s I hs hg k => by
  split at hg
  · cases hg
  · rename_i hn
    cases hg
    refine ⟨a, ns, rfl, hs, List.length_pos_iff.mpr hn, fun m h1 h2 => ?_⟩
    rw [← minL_eq h1 h2]
    exact k _ F H I (.refl _) resInt
theorem ok_all : CaOk C (rAll C.K) gAll := ok_onBools fun F H σ env Q a ns s I hs hg k => by
  cases hg
  exact ⟨a, ns, rfl, hs, k _ F H I (.refl _) resBl⟩
theorem ok_any : CaOk C (rAny C.K) gAny := ok_onBools fun F H σ env Q a ns s I hs hg k => by
  cases hg
  exact ⟨a, ns, rfl, hs, k _ F H I (.refl _) resBl⟩
theorem ca_sum (ft : Fit X C) (hc : X.calm = true) : CallR X (.builtin "sum") (rSum C.K) := by rw [← ft.k]; exact cr_sum hc
theorem ca_maxL (ft : Fit X C) (hc : X.calm = true) : CallR X (.builtin "max") (rMax C.K) := by rw [← ft.k]; exact cr_max hc
theorem ca_minL (ft : Fit X C) (hc : X.calm = true) : CallR X (.builtin "min") (rMin C.K) := by rw [← ft.k]; exact cr_min hc
theorem ca_all (ft : Fit X C) (hc : X.calm = true) : CallR X (.builtin "all") (rAll C.K) := by rw [← ft.k]; exact cr_all hc
theorem ca_any (ft : Fit X C) (hc : X.calm = true) : CallR X (.builtin "any") (rAny C.K) := by rw [← ft.k]; exact cr_any hc
def rListA (K : PySem.W.Frag) : List V → Hp → VK → Prop := fun xs H Q => ∃ p ys, xs = [.ref p] ∧ (SqL K H p ys ∨ SqT K H p ys) ∧ ∀ l, H l = none → Q (.ref l) (upd H l (.lst ys))
theorem ca_list (ft : Fit X C) : CallR X (.type "list") (rListA C.K) := by rw [← ft.k]; exact call_list_of
theorem ok_list : CaOk C (rListA C.K) gList := by
  intro F H σ env vs ds s Q I r hg k
  unfold gList at hg
  split at hg
  · obtain ⟨x, rfl, rx⟩ := rep1 r
    cases hg
    obtain ⟨p, xs, rfl, h1, h2⟩ := rx.lst
    refine ⟨p, xs, rfl, .inl (.inl (.inl (I.fh _ _ h1))), fun l nl => ?_⟩
    obtain ⟨I2, fr⟩ := I.newList nl h2
    exact k _ _ _ I2 (.refl _) ⟨l, rfl, fr⟩
  · obtain ⟨x, rfl, rx⟩ := rep1 r
    cases hg
    obtain ⟨p, xs, rfl, h1, h2⟩ := rx.tup
    refine ⟨p, xs, rfl, .inr (sameT I.fh h1), fun l nl => ?_⟩
    obtain ⟨I2, fr⟩ := I.newList nl h2
    exact k _ _ _ I2 (.refl _) ⟨l, rfl, fr⟩
  · obtain ⟨x, rfl, rx⟩ := rep1 r
    cases hg
    obtain ⟨p, rfl, h1⟩ := rx.scr
    refine ⟨p, _, rfl, .inl (I.fh.seq h1), fun l nl => ?_⟩
    obtain ⟨I2, fr⟩ := I.newList nl (RepL.ints (K := C.K) (mg := C.mg) (H := F))
    exact k _ _ _ I2 (.refl _) ⟨l, rfl, fr⟩
  · cases hg
def rTupleA (K : PySem.W.Frag) : List V → Hp → VK → Prop := fun xs H Q => ∃ p ys, xs = [.ref p] ∧ ((SqL K H p ys ∧ ∀ l, H l = none → Q (.ref l) (upd H l (.tup ys))) ∨ (SqT K H p ys ∧ Q (.ref p) H))
theorem ca_tuple (ft : Fit X C) : CallR X (.type "tuple") (rTupleA C.K) := by rw [← ft.k]; exact call_tuple_of
theorem ok_tuple : CaOk C (rTupleA C.K) gTuple := by
  intro F H σ env vs ds s Q I r hg k
  unfold gTuple at hg
  split at hg
  · obtain ⟨x, rfl, rx⟩ := rep1 r
    cases hg
    obtain ⟨p, xs, rfl, h1, h2⟩ := rx.lst
    refine ⟨p, xs, rfl, .inl ⟨.inl (.inl (I.fh _ _ h1)), fun l nl => ?_⟩⟩
    have sF := I.same (o := .tup xs) nl
    exact k _ _ _ (I.alloc nl) sF (Rep.ofTup upd_same (h2.mono sF))
  · obtain ⟨x, rfl, rx⟩ := rep1 r
    cases hg
    obtain ⟨p, xs, e, h1, h2⟩ := rx.tup
    subst e
    exact ⟨p, xs, rfl, .inr ⟨sameT I.fh h1, k _ F H I (.refl _) rx⟩⟩
  · cases hg
theorem ok_intC : CaOk C (fun xs H Q => (∃ i, xs = [.int i] ∧ Q (.int i) H) ∨ ∃ k, xs = [.bl k] ∧ Q (.int (if k then 1 else 0)) H) gIntC := by
  intro F H σ env vs ds s Q I r hg k
  unfold gIntC at hg
  split at hg
  · obtain ⟨x, rfl, rx⟩ := rep1 r
    cases hg
    rw [rx.int]
    exact .inl ⟨_, rfl, k _ F H I (.refl _) resInt⟩
  · obtain ⟨x, rfl, rx⟩ := rep1 r
    cases hg
    rw [rx.bl]
    exact .inr ⟨_, rfl, k _ F H I (.refl _) resInt⟩
  · cases hg
theorem rep_ty {d : D} {v : V} {a : String} (r : Rep K mg H d v) (h : tyN d = some a) : TyX K H v (.type a) := by
  cases d <;> first | (cases h; done) | skip
  · cases h; rw [r.non]; exact .base .non
  · cases h; rw [r.bl]; exact .base (.bl _)
  · cases h; rw [r.int]; exact .base (.int _)
  · cases h; rw [r.str]; exact .base (.str _)
  · cases h; obtain ⟨p, xs, rfl, h1, _⟩ := r.lst; exact .base (.lst h1)
  · cases h
    obtain ⟨p, xs, rfl, h1, _⟩ := r.tup
    rcases h1 with (h1 | ⟨o, h1⟩) | ⟨o, its, n, h1, h2, _⟩
    · exact .base (.tup h1)
    · exact .fTuple h1
    · exact .kTuple h1 h2
  · cases h
    obtain ⟨p, rfl, h1⟩ := r.scr
    rcases h1 with (h1 | ⟨o, h1⟩) | ⟨o, its, n, h1, h2, _⟩
    · exact .base (.lst h1)
    · exact .base (.frz h1)
    · exact .kList h1 h2
  · cases h; unfold Rep at r; obtain ⟨p, xs, rfl, h1, _⟩ := r; rcases h1 with h1 | ⟨o, h1⟩; exact .base (.dK h1); exact .fDict h1
  · cases h; unfold Rep at r; obtain ⟨p, xs, rfl, h1, _⟩ := r; exact .base (.dT h1)
theorem isi_of {d : D} {v : V} {t : String} {b : Bool} (r : Rep K mg H d v) (h : isiB d t = some b) : ∃ u, TyX K H v u ∧ PySem.W.kitOne K u (.type t) = some b := by
  unfold isiB at h
  cases e : tyN d with
  | none => rw [e] at h; cases h
  | some a => rw [e] at h; exact ⟨_, rep_ty r e, kit_ty h⟩
theorem ok_isi : CaOk C (rIsi C.K) gIsi := by
  intro F H σ env vs ds s Q I r hg k
  unfold gIsi at hg
  split at hg
  · rename_i d t
    cases e : isiB d t with
    | none => rw [e] at hg; cases hg
    | some b =>
      rw [e] at hg
      cases hg
      obtain ⟨x, y, rfl, rx, ry⟩ := rep2 r
      unfold Rep at ry
      subst ry
      obtain ⟨u, h1, h2⟩ := isi_of (rx.mono I.fh) e
      exact ⟨x, .ty t, u, .type t, b, rfl, .ty t, h1, h2, k _ F H I (.refl _) resBl⟩
  · cases hg
theorem ca_isi (ft : Fit X C) : CallR X (.builtin "isinstance") (rIsi C.K) := by rw [← ft.k]; exact call_isi
theorem qe_ty {x : Str} {n : String} {pos : Pos} (hg : Gl X x) (hm : X.mg x = none) (hv : bootBuiltins x = some (.type n)) (hn : x ≠ "__name__" := by decide) (hd : (x == ("__debug__" : Str)) = false := by decide) : PE X (.Name x pos) (tD C (conD (.ty n))) :=
  qe_con (v := .ty n) (fun F => by unfold Rep; rfl) (pe_bltn (v := .ty n) hg hm hv rfl hn hd)
end
end Dd

namespace Dd
open PySem PySem.Spec PyProof.Rows L2
/-! ### what a for walks -/
theorem PI.or {X : Cx} {g e : Expr} {w w' : TI} (h : PI X g e w) (h' : PI X g e w') : PI X g e (fun σ H R => w σ H R ∨ w' σ H R) := ⟨fun pins s σ H R I q => q.elim (h.run pins s σ H R I) (h'.run pins s σ H R I)⟩
def signs (z : Str) : List D := z.cps.toList.map fun c => .str ⟨#[c]⟩
def iterOf : D → Option (List D)
  | .lst ds => some ds
  | .tup ds => some ds
  | .scr ns => some (ns.map .int)
  | .str z => some (signs z)
  | _ => none
def iterE (f : DE) : DI := fun env => (f env).bind fun p => match iterOf p.1.d with
  | some ds => .ok (ds, p.2)
  | none => .no
def rangeL (lo : Int) (n : Nat) : List D := (List.range n).map fun (k : Nat) => .int (lo + (k : Int))
def gR1 : List D → Option (List D)
  | [.int j] => if -(2 ^ 62) ≤ j ∧ j < 2 ^ 62 then some (rangeL 0 j.toNat) else none
  | _ => none
def gR2 : List D → Option (List D)
  | [.int i, .int j] => if -(2 ^ 62) ≤ i ∧ i < 2 ^ 62 ∧ -(2 ^ 62) ≤ j ∧ j < 2 ^ 62 then some (rangeL i (j - i).toNat) else none
  | _ => none
def gZip : List D → Option (List D)
  | [.lst a, .lst b] => some ((a.zip b).map fun p => .tup [p.1, p.2])
  | _ => none
def gEnum : List D → Option (List D)
  | [.lst a] => some (a.zipIdx.map fun p => .tup [.int (p.2 : Nat), p.1])
  | _ => none
def gRev : List D → Option (List D)
  | [.lst a] => some a.reverse
  | _ => none
def iterG (g : List D → Option (List D)) (fs : List DE) : DI := fun env => (argsD fs env).bind fun p => match g p.1 with
  | some ds => .ok (ds, p.2)
  | none => .no
section
variable {X : Cx} {C : Cd} {tg e : Expr} {es : List Expr} {f : DE} {fs : List DE} {p pos tpos : Pos}
theorem it_list {F1 : Hp} {a : Addr} {xs : List V} {ds : List D} (h : SqL C.K F1 a xs) (r : RepL C.K C.mg F1 ds xs) : ItOk C (Itl C.K a) ds F1 := by
  intro F H σ env i s I
  have hx : SqL C.K H a xs := (s.trans I.fh).seq h
  refine ⟨fun d hd => ?_, fun e => ?_⟩
  · obtain ⟨x, hx1, rx⟩ := r.get hd
    refine ⟨⟨xs, x, hx, hx1⟩, fun y H' ⟨e1, e2⟩ => ?_⟩
    subst e1
    have := e2 xs hx
    rw [hx1] at this
    cases this
    exact ⟨F, .refl I.fh, rx.mono s⟩
  · exact ⟨xs, hx, by rw [r.len, e]; exact Nat.le_refl _⟩
theorem it_tup {F1 : Hp} {a : Addr} {xs : List V} {ds : List D} (h : SqT C.K F1 a xs) (r : RepL C.K C.mg F1 ds xs) : ItOk C (Itt C.K a) ds F1 := by
  intro F H σ env i s I
  have hx : SqT C.K H a xs := sameT (s.trans I.fh) h
  refine ⟨fun d hd => ?_, fun e => ?_⟩
  · obtain ⟨x, hx1, rx⟩ := r.get hd
    refine ⟨⟨xs, x, hx, hx1⟩, fun y H' ⟨e1, e2⟩ => ?_⟩
    subst e1
    have := e2 xs hx
    rw [hx1] at this
    cases this
    exact ⟨F, .refl I.fh, rx.mono s⟩
  · exact ⟨xs, hx, by rw [r.len, e]; exact Nat.le_refl _⟩
theorem it_str {F1 : Hp} {z : Str} : ItOk C (Its z) (signs z) F1 := by
  intro F H σ env i s I
  unfold signs
  refine ⟨fun d hd => ?_, fun e => ?_⟩
  · rw [List.getElem?_map] at hd
    cases ec : z.cps.toList[i]? with
    | none => rw [ec] at hd; cases hd
    | some c =>
      rw [ec] at hd
      cases hd
      have hi : i < z.cps.size := by
        have := (List.getElem?_eq_some_iff.mp ec).1
        simpa using this
      refine ⟨hi, fun y H' ⟨e1, c', h1, h2⟩ => ?_⟩
      subst e1 h2
      have : z.cps.toList[i]? = some c' := by rw [← h1]; simp
      rw [ec] at this
      cases this
      exact ⟨F, .refl I.fh, rStr⟩
  · rw [List.length_map] at e
    show z.cps.size ≤ i
    rw [e]
    simp
theorem it_range {F1 : Hp} {lo : Int} {n : Nat} : ItOk C (Itr lo n) (rangeL lo n) F1 := by
  intro F H σ env i s I
  unfold rangeL
  refine ⟨fun d hd => ?_, fun e => ?_⟩
  · rw [List.getElem?_map] at hd
    cases ec : (List.range n)[i]? with
    | none => rw [ec] at hd; cases hd
    | some c =>
      rw [ec] at hd
      cases hd
      have hi : i < n := by
        have := (List.getElem?_eq_some_iff.mp ec).1
        simpa using this
      rw [List.getElem?_range hi] at ec
      cases ec
      refine ⟨hi, fun y H' ⟨e1, h2⟩ => ?_⟩
      subst e1 h2
      exact ⟨F, .refl I.fh, rInt⟩
  · simp at e
    show n ≤ i
    omega
theorem it_zip {F1 : Hp} {a b : Addr} {xs ys : List V} {ds es : List D} (h : SqL C.K F1 a xs) (r : RepL C.K C.mg F1 ds xs) (h' : SqL C.K F1 b ys) (r' : RepL C.K C.mg F1 es ys) : ItOk C (Itz C.K a b) ((ds.zip es).map fun p => .tup [p.1, p.2]) F1 := by
  intro F H σ env i s I
  have hx : SqL C.K H a xs := (s.trans I.fh).seq h
  have hy : SqL C.K H b ys := (s.trans I.fh).seq h'
  have w := L2.walk_zip (K := C.K) (a := a) (b := b) (xs := xs) (ys := ys) (n := min xs.length ys.length) rfl
  refine ⟨fun d hd => ?_, fun e => ?_⟩
  · rw [List.getElem?_map] at hd
    cases ec : (ds.zip es)[i]? with
    | none => rw [ec] at hd; cases hd
    | some c =>
      rw [ec] at hd
      cases hd
      obtain ⟨h1, h2⟩ := List.getElem?_zip_eq_some.mp ec
      obtain ⟨x, hx1, rx⟩ := r.get h1
      obtain ⟨y, hy1, ry⟩ := r'.get h2
      have hi : i < min xs.length ys.length := by
        have := (List.getElem?_eq_some_iff.mp hx1).1
        have := (List.getElem?_eq_some_iff.mp hy1).1
        omega
      refine ⟨w.goes i H hi ⟨hx, hy⟩, fun v H' yl => ?_⟩
      obtain ⟨T, x', y', e1, e2, e3, e4, e5⟩ := w.yields i H v H' hi ⟨hx, hy⟩ yl
      replace e4 : xs[i]? = some x' := e4
      replace e5 : ys[i]? = some y' := e5
      rw [hx1] at e4
      rw [hy1] at e5
      cases e4
      cases e5
      subst e1 e3
      have sF := I.same (o := .tup [x, y]) e2
      exact ⟨_, I.extAlloc e2, Rep.ofTup upd_same (repCons (rx.mono (s.trans sF)) (repCons (ry.mono (s.trans sF)) repNil))⟩
  · rw [List.length_map, List.length_zip, ← r.len, ← r'.len] at e
    rw [e]
    exact w.stops H ⟨hx, hy⟩
theorem it_enum {F1 : Hp} {a : Addr} {xs : List V} {ds : List D} (h : SqL C.K F1 a xs) (r : RepL C.K C.mg F1 ds xs) : ItOk C (Ite C.K a) (ds.zipIdx.map fun p => .tup [.int (p.2 : Nat), p.1]) F1 := by
  intro F H σ env i s I
  have hx : SqL C.K H a xs := (s.trans I.fh).seq h
  have w := walk_enum (K := C.K) (a := a) (xs := xs)
  refine ⟨fun d hd => ?_, fun e => ?_⟩
  · rw [List.getElem?_map, List.getElem?_zipIdx] at hd
    cases ec : ds[i]? with
    | none => rw [ec] at hd; cases hd
    | some c =>
      rw [ec] at hd
      simp at hd
      subst hd
      obtain ⟨x, hx1, rx⟩ := r.get ec
      have hi : i < xs.length := (List.getElem?_eq_some_iff.mp hx1).1
      refine ⟨w.goes i H hi hx, fun v H' yl => ?_⟩
      obtain ⟨T, x', y', e1, e2, e3, e4, e5⟩ := w.yields i H v H' hi hx yl
      replace e5 : xs[i]? = some y' := e5
      rw [hx1] at e5
      cases e4
      cases e5
      subst e1 e3
      have sF := I.same (o := .tup [.int (i : Nat), x]) e2
      exact ⟨_, I.extAlloc e2, Rep.ofTup upd_same (repCons rInt (repCons (rx.mono (s.trans sF)) repNil))⟩
  · rw [List.length_map, List.length_zipIdx, ← r.len] at e
    rw [e]
    exact w.stops H hx
theorem it_rev {F1 : Hp} {a : Addr} {xs : List V} {ds : List D} (h : SqL C.K F1 a xs) (r : RepL C.K C.mg F1 ds xs) : ItOk C (Itv C.K a xs.length) ds.reverse F1 := by
  intro F H σ env i s I
  have hx : SqL C.K H a xs := (s.trans I.fh).seq h
  have w := walk_rev (K := C.K) (a := a) (xs := xs)
  refine ⟨fun d hd => ?_, fun e => ?_⟩
  · obtain ⟨x, hx1, rx⟩ := r.rev.get hd
    have hi : i < xs.length := by
      have := (List.getElem?_eq_some_iff.mp hx1).1
      simpa using this
    refine ⟨w.goes i H hi hx, fun v H' yl => ?_⟩
    obtain ⟨e1, e2⟩ := w.yields i H v H' hi hx yl
    subst e1
    rw [List.getElem?_reverse hi, e2] at hx1
    cases hx1
    exact ⟨F, .refl I.fh, rx.mono s⟩
  · rw [List.length_reverse, ← r.len] at e
    rw [e]
    exact w.stops H hx
theorem qi_seq (ft : Fit X C) (h : PE X e (tD C f)) : PI X tg e (tDI C (iterE f)) := by
  have q := PI.or (pi_list (tg := tg) (qz h)) (PI.or (pi_tup (tg := tg) (qz h)) (pi_str (tg := tg) (qz h)))
  rw [ft.k] at q
  refine PI.weak q fun σ H RR ⟨F, env, I, h⟩ => ?_
  unfold iterE at h
  cases ef : f env with
  | no => rw [ef] at h; exact h.elim
  | er c fs z => rw [ef] at h; exact .inl ⟨F, env, I, by rw [ef]; exact h⟩
  | ok p =>
    rw [ef] at h
    simp only [R.bind_ok] at h
    cases ed : p.1.d with
    | lst ds =>
      simp only [ed, iterOf] at h
      refine .inl ⟨F, env, I, by
        rw [ef]
        intro F' H' I' s' x rx
        rw [ed] at rx
        obtain ⟨a, xs, rfl, h1, h2⟩ := rx.lst
        exact ⟨a, rfl, ⟨xs, .inl (.inl (I'.fh _ _ h1))⟩, h F' H' I' s' _ (it_list (.inl (.inl h1)) h2)⟩⟩
    | scr ns =>
      simp only [ed, iterOf] at h
      refine .inl ⟨F, env, I, by
        rw [ef]
        intro F' H' I' s' x rx
        rw [ed] at rx
        obtain ⟨a, rfl, h1⟩ := rx.scr
        exact ⟨a, rfl, ⟨_, I'.fh.seq h1⟩, h F' H' I' s' _ (it_list h1 RepL.ints)⟩⟩
    | tup ds =>
      simp only [ed, iterOf] at h
      refine .inr (.inl ⟨F, env, I, by
        rw [ef]
        intro F' H' I' s' x rx
        rw [ed] at rx
        obtain ⟨a, xs, rfl, h1, h2⟩ := rx.tup
        exact ⟨a, rfl, ⟨xs, sameT I'.fh h1⟩, h F' H' I' s' _ (it_tup h1 h2)⟩⟩)
    | str z =>
      simp only [ed, iterOf] at h
      refine .inr (.inr ⟨F, env, I, by
        rw [ef]
        intro F' H' I' s' x rx
        rw [ed] at rx
        exact ⟨z, rx.str, h F' H' I' s' _ it_str⟩⟩)
    | _ => simp only [ed, iterOf] at h; exact h.elim
theorem t_iter {g : List D → Option (List D)} {σ : L2.St} {H : Hp} {Q : List V → Hp → Prop} {RR : It → Hp → Prop} (h : tDI C (iterG g fs) σ H RR)
    (k : ∀ F H env vs ds zs, In C F H σ env → RepL C.K C.mg F ds vs → g ds = some zs → (∀ J, ItOk C J zs F → RR J H) → Q vs H) : tDA C fs σ H Q := by
  obtain ⟨F, env, I, h⟩ := h
  refine ⟨F, env, I, (Fin.bnd h).imp fun ds e F1 H1 I1 s1 h1 vs rv => ?_⟩
  cases eg : g ds with
  | none => simp only [eg] at h1; exact h1.elim
  | some zs => simp only [eg] at h1; exact k F1 H1 e vs ds zs I1 rv eg fun J ok => h1 F1 H1 I1 (.refl _) J ok
theorem qi_range1 {a : Expr} (hg : Gl X "range") (hm : X.mg "range" = none) (ha : PA X [a] (tDA C fs)) (hs : starEach [a] X.env = [(false, eval a X.env)] := by rfl) : PI X tg (.Call (.Name "range" p) [a] [] pos) (tDI C (iterG gR1 fs)) :=
  PI.weak (pi_range1 hg hm ha hs) fun σ H RR h => t_iter h fun F H env vs ds zs I rv eg k => by
    unfold gR1 at eg
    split at eg
    · split at eg
      · rename_i hz
        cases eg
        obtain ⟨x, rfl, rx⟩ := rep1 rv
        rw [rx.int]
        exact ⟨_, rfl, hz.1, hz.2, k _ it_range⟩
      · cases eg
    · cases eg
theorem qi_range2 {a b : Expr} (hg : Gl X "range") (hm : X.mg "range" = none) (ha : PA X [a, b] (tDA C fs)) (hs : starEach [a, b] X.env = [(false, eval a X.env), (false, eval b X.env)] := by rfl) (hs2 : starEach [b] X.env = [(false, eval b X.env)] := by rfl) : PI X tg (.Call (.Name "range" p) [a, b] [] pos) (tDI C (iterG gR2 fs)) :=
  PI.weak (pi_range2 hg hm ha hs hs2) fun σ H RR h => t_iter h fun F H env vs ds zs I rv eg k => by
    unfold gR2 at eg
    split at eg
    · split at eg
      · rename_i hz
        cases eg
        obtain ⟨x, y, rfl, rx, ry⟩ := rep2 rv
        rw [rx.int, ry.int]
        exact ⟨_, _, rfl, hz, k _ it_range⟩
      · cases eg
    · cases eg
theorem qi_zip {a b : Expr} {elts : List Expr} {kk : Nat} (ft : Fit X C) (hg : Gl X "zip") (hm : X.mg "zip" = none) (ha : PA X [a, b] (tDA C fs)) (hs : starEach [a, b] X.env = (false, eval a X.env) :: starEach [b] X.env := by rfl) (hpl : (backTo pos (starEach [b] X.env)).any (·.1) = false := by rfl) : PI X (.Tuple elts kk tpos) (.Call (.Name "zip" p) [a, b] [] pos) (tDI C (iterG gZip fs)) := by
  have q := pi_zip (tpos := tpos) (elts := elts) (kk := kk) (p := p) hg hm ha hs hpl
  rw [ft.k] at q
  exact PI.weak q fun σ H RR h => t_iter h fun F H env vs ds zs I rv eg k => by
    unfold gZip at eg
    split at eg
    · cases eg
      obtain ⟨x, y, rfl, rx, ry⟩ := rep2 rv
      obtain ⟨a, xs, rfl, h1, h2⟩ := rx.lst
      obtain ⟨b, ys, rfl, h3, h4⟩ := ry.lst
      exact ⟨a, b, xs, ys, rfl, .inl (.inl (I.fh _ _ h1)), .inl (.inl (I.fh _ _ h3)), k _ (it_zip (.inl (.inl h1)) h2 (.inl (.inl h3)) h4)⟩
    · cases eg
theorem qi_enum {a : Expr} {elts : List Expr} {kk : Nat} (ft : Fit X C) (hg : Gl X "enumerate") (hm : X.mg "enumerate" = none) (ha : PA X [a] (tDA C fs)) (hs : starEach [a] X.env = [(false, eval a X.env)] := by rfl) : PI X (.Tuple elts kk tpos) (.Call (.Name "enumerate" p) [a] [] pos) (tDI C (iterG gEnum fs)) := by
  have q := pi_enum (tpos := tpos) (elts := elts) (kk := kk) (p := p) (pos := pos) hg hm ha hs
  rw [ft.k] at q
  exact PI.weak q fun σ H RR h => t_iter h fun F H env vs ds zs I rv eg k => by
    unfold gEnum at eg
    split at eg
    · cases eg
      obtain ⟨x, rfl, rx⟩ := rep1 rv
      obtain ⟨a, xs, rfl, h1, h2⟩ := rx.lst
      exact ⟨a, xs, rfl, .inl (.inl (I.fh _ _ h1)), k _ (it_enum (.inl (.inl h1)) h2)⟩
    · cases eg
theorem qi_rev {a : Expr} (ft : Fit X C) (hg : Gl X "reversed") (hm : X.mg "reversed" = none) (ha : PA X [a] (tDA C fs)) (hs : starEach [a] X.env = [(false, eval a X.env)] := by rfl) : PI X tg (.Call (.Name "reversed" p) [a] [] pos) (tDI C (iterG gRev fs)) := by
  have q := pi_reversed (tg := tg) (p := p) (pos := pos) hg hm ha hs
  rw [ft.k] at q
  exact PI.weak q fun σ H RR h => t_iter h fun F H env vs ds zs I rv eg k => by
    unfold gRev at eg
    split at eg
    · cases eg
      obtain ⟨x, rfl, rx⟩ := rep1 rv
      obtain ⟨a, xs, rfl, h1, h2⟩ := rx.lst
      exact ⟨a, xs, rfl, .inl (.inl (I.fh _ _ h1)), k _ (it_rev (.inl (.inl h1)) h2)⟩
    · cases eg
end
/-! ### comprehensions -/
def wipeE (env : DEnv) : List Nat → DEnv
  | [] => env
  | v :: vs => (wipeE env vs).set v none
def bind0 {α β : Type} (r : R DEnv (α × DEnv)) (k : α × DEnv → R DEnv β) : R DEnv β := match r with
  | .ok p => k p
  | _ => .no
@[simp] theorem bind0_ok {α β : Type} (a : α × DEnv) (k : α × DEnv → R DEnv β) : bind0 (.ok a) k = k a := rfl
/-- what is owned is lent; it comes back -/
def lend : Option Sl → Option Sl
  | some (.own d) => some (.bor d)
  | o => o
def back : Option Sl → Option Sl → Option Sl
  | some (.own _), some (.bor d) => some (.own d)
  | some (.bor _), some (.bor d) => some (.bor d)
  | _, some (.frz d) => some (.frz d)
  | _, _ => none
def lendE (env : DEnv) : DEnv := env.map lend
def backE (env e : DEnv) : DEnv := List.zipWith back env e
def frzE (env : DEnv) : List Nat → DEnv
  | [] => env
  | z :: zs => match (frzE env zs)[z]? with
    | some (some (.own d)) => (frzE env zs).set z (some (.frz d))
    | _ => frzE env zs
def lcD (g : DG) (tt : DT) (te : DE) (vs : List Nat) : List D → List D → DEnv → R DEnv (List D × DEnv)
  | [], acc, env => .ok (acc, env)
  | d :: ds, acc, env => match g d (lendE env) with
    | none => .no
    | some e => bind0 (tt e) fun p => match p.1 with
      | true => bind0 (te p.2) fun q => if acc.length < lim then lcD g tt te vs ds (acc ++ [q.1.d]) (backE env (wipeE q.2 vs)) else .no
      | false => lcD g tt te vs ds acc (backE env (wipeE p.2 vs))
def compD (fi : DI) (g : DG) (tt : DT) (te : DE) (vs zs : List Nat) : DE := fun env => (fi env).bind fun p => bind0 (lcD g tt te vs p.1 [] (wipeE (frzE p.2 zs) vs)) fun q => .ok (.own (.lst q.1), q.2)
def yesT : DT := fun env => .ok (true, env)
section
variable {X : Cx} {C : Cd} {F H : Hp} {σ : L2.St} {env : DEnv}
theorem In.wipe (I : In C F H σ env) : ∀ vs : List Nat, In C F H (L2.wipe σ vs) (wipeE env vs)
  | [] => I
  | v :: vs => (In.wipe I vs).drop v Option.none
theorem wipe_at : ∀ (τ : L2.St) (vs : List Nat) (i : Nat), (L2.wipe τ vs)[i]? = if i ∈ vs then (τ[i]?).map (fun _ => none) else τ[i]? := by
    intro τ vs i
    induction vs with
    | nil => rfl
    | cons v vs ih =>
      show ((L2.wipe τ vs).set v none)[i]? = _
      by_cases e : v = i
      · subst e
        rw [List.getElem?_set_self', ih]
        simp
        split <;> cases τ[v]? <;> rfl
      · rw [List.getElem?_set_ne e, ih]
        have : (i ∈ v :: vs) ↔ i ∈ vs := by simp; exact fun z => absurd z.symm e
        simp only [this]
theorem wipe_wipe (τ : L2.St) (vs : List Nat) : L2.wipe (L2.wipe τ vs) vs = L2.wipe τ vs := by
  apply List.ext_getElem?
  intro i
  rw [wipe_at, wipe_at]
  split
  · cases τ[i]? <;> rfl
  · rfl
theorem wipe_agree {σ σ' : L2.St} {ts : List Nat} (ag : Agree ts σ σ') : ∀ vs : List Nat, (∀ i ∈ ts, i ∈ vs) → L2.wipe σ' vs = L2.wipe σ vs := by
  have at_ : ∀ (τ : L2.St) (vs : List Nat) (i : Nat), (L2.wipe τ vs)[i]? = if i ∈ vs then (τ[i]?).map (fun _ => none) else τ[i]? := by
    intro τ vs i
    induction vs with
    | nil => rfl
    | cons v vs ih =>
      show ((L2.wipe τ vs).set v none)[i]? = _
      by_cases e : v = i
      · subst e
        rw [List.getElem?_set_self', ih]
        simp
        split <;> cases τ[v]? <;> rfl
      · rw [List.getElem?_set_ne e, ih]
        have : (i ∈ v :: vs) ↔ i ∈ vs := by simp; exact fun z => absurd z.symm e
        simp only [this]
  intro vs hv
  apply List.ext_getElem?
  intro i
  rw [at_, at_]
  split
  · rename_i hi
    by_cases hl : i < σ.length
    · rw [List.getElem?_eq_getElem hl, List.getElem?_eq_getElem (by rw [ag.1]; exact hl)]
      rfl
    · have := ag.1
      rw [List.getElem?_eq_none (by omega), List.getElem?_eq_none (by omega)]
  · rename_i hi
    exact ag.2 i fun z => hi (hv i z)
theorem In.unwipe {vs : List Nat} {e : DEnv} (I : In C F H (L2.wipe σ vs) e) : In C F H σ e := by
  refine ⟨I.f0, I.fh, I.fr, I.nf, ?_, fun i s h => ?_, fun i j s t p hi hj ms mt ai aj => ?_, I.bs⟩
  · rw [← I.len, wipe_length]
  · obtain ⟨v, hv, r⟩ := I.sl i s h
    exact ⟨v, (wipe_some hv).1, r⟩
  · obtain ⟨v, hv, r⟩ := I.sl i s hi
    obtain ⟨w, hw, r'⟩ := I.sl j t hj
    have e1 := (wipe_some hv).1
    have e2 := (wipe_some hw).1
    rw [ai] at e1
    rw [aj] at e2
    cases e1
    cases e2
    exact I.ds i j s t p hi hj ms mt hv hw
theorem In.frzAll (I : In C F H σ env) : ∀ zs : List Nat, ∃ F', In C F' H σ (frzE env zs) ∧ Same F F'
  | [] => ⟨F, I, .refl _⟩
  | z :: zs => by
    obtain ⟨F', I', s'⟩ := In.frzAll I zs
    unfold frzE
    split
    · rename_i d hd
      obtain ⟨v, F2, hv, I2, s2, _⟩ := I'.frzSlot hd
      exact ⟨F2, I2, s'.trans s2⟩
    · exact ⟨F', I', s'⟩
/-- the addresses of what may change -/
def MutA (e : DEnv) (σ : L2.St) : Addr → Prop := fun p => ∃ (i : Nat) (s : Sl), e[i]? = some (some s) ∧ s.mut = true ∧ σ[i]? = some (some (.ref p))
theorem lend_get {i : Nat} {s : Sl} (h : (lendE env)[i]? = some (some s)) : ∃ t, env[i]? = some (some t) ∧ lend (some t) = some s := by
  unfold lendE at h
  rw [List.getElem?_map] at h
  cases e : env[i]? with
  | none => rw [e] at h; cases h
  | some o =>
    rw [e] at h
    cases o with
    | none => cases h
    | some t => exact ⟨t, rfl, Option.some.inj h⟩
theorem In.lendTo (I : In C F H σ env) : In ⟨C.K, C.mg, F, H, MutA env σ, W0, C.ex, C.exc, false⟩ F H σ (lendE env) := by
  refine ⟨.refl _, I.fh, fun a o h _ => h, fun a o h => .inl h, ?_, fun i s h => ?_, fun i j s t p hi hj ms mt ai aj => ?_, fun p ⟨i, s, h1, h2, h3⟩ => ?_⟩
  · unfold lendE; rw [List.length_map]; exact I.len
  · obtain ⟨t, ht, hl⟩ := lend_get h
    obtain ⟨v, hv, r⟩ := I.sl i t ht
    refine ⟨v, hv, ?_⟩
    cases t with
    | frz d => cases hl; exact r
    | exn c => cases hl; exact r
    | own d =>
      cases hl
      obtain ⟨p, rfl, h1, h2, h3⟩ := r
      exact ⟨p, rfl, h1, ⟨i, _, ht, rfl, hv⟩, h3⟩
    | bor d =>
      cases hl
      obtain ⟨p, rfl, h1, h2, h3⟩ := r
      exact ⟨p, rfl, h1, ⟨i, _, ht, rfl, hv⟩, h3⟩
  · obtain ⟨s', hs, hl⟩ := lend_get hi
    obtain ⟨t', ht, hl'⟩ := lend_get hj
    have m1 : s'.mut = true := by cases s' <;> first | rfl | (cases hl; exact ms)
    have m2 : t'.mut = true := by cases t' <;> first | rfl | (cases hl'; exact mt)
    exact I.ds i j s' t' p hs ht m1 m2 ai aj
  · obtain ⟨v, hv, r⟩ := I.sl i s h1
    rw [h3] at hv
    cases hv
    cases s with
    | frz d => cases h2
    | exn c => cases h2
    | own d => obtain ⟨q, e, _, _, h3⟩ := r; cases e; obtain ⟨o, ho⟩ := h3.some; rw [ho]; exact fun z => nomatch z
    | bor d => obtain ⟨q, e, _, _, h3⟩ := r; cases e; obtain ⟨o, ho⟩ := h3.some; rw [ho]; exact fun z => nomatch z
theorem back_get {e : DEnv} {i : Nat} {s : Sl} (h : (backE env e)[i]? = some (some s)) : ∃ o z, env[i]? = some o ∧ e[i]? = some (some z) ∧ back o (some z) = some s := by
  unfold backE at h
  rw [List.getElem?_zipWith] at h
  cases e1 : env[i]? with
  | none => rw [e1] at h; cases h
  | some o =>
    cases e2 : e[i]? with
    | none => rw [e1, e2] at h; cases h
    | some z =>
      rw [e1, e2] at h
      have h' := Option.some.inj h
      cases z with
      | none => cases o with
        | none => cases h'
        | some y => cases y <;> cases h'
      | some z => exact ⟨o, z, rfl, rfl, h'⟩
/-- behind what was lent -/
theorem In.backFrom {F' H' : Hp} {e : DEnv} (I : In C F H σ env) (J : In ⟨C.K, C.mg, F, H, MutA env σ, W0, C.ex, C.exc, false⟩ F' H' σ e) : In C F' H' σ (backE env e) := by
  have nB : ∀ a o, C.H0 a = some o → ¬ C.B a → ¬ MutA env σ a := fun a o h hb ⟨i, s, h1, h2, h3⟩ => by
    obtain ⟨v, hv, r⟩ := I.sl i s h1
    rw [h3] at hv
    cases hv
    cases s with
    | frz d => cases h2
    | exn c => cases h2
    | own d => obtain ⟨q, e, _, h4, _⟩ := r; cases e; rw [h4] at h; cases h
    | bor d => obtain ⟨q, e, _, h4, _⟩ := r; cases e; exact hb h4
  refine ⟨I.f0.trans J.f0, J.fh, fun a o h hb => J.fr a o (I.fr a o h hb) (nB a o h hb), fun a o h => ?_, ?_, fun i s h => ?_, fun i j s t p hi hj ms mt ai aj => ?_, fun p hp z => ?_⟩
  · rcases J.nf a o h with h | h
    · exact I.nf a o h
    · exact .inr (I.none0 h)
  · unfold backE
    rw [List.length_zipWith, ← I.len, ← J.len]
    omega
  · obtain ⟨o, z, h1, h2, h3⟩ := back_get h
    obtain ⟨v, hv, r⟩ := J.sl i z h2
    refine ⟨v, hv, ?_⟩
    cases z with
    | frz d =>
      have : s = .frz d := by cases o with
        | none => cases h3; rfl
        | some y => cases y <;> (cases h3; rfl)
      subst this
      exact r
    | own d => cases o with
      | none => cases h3
      | some y => cases y <;> cases h3
    | exn c => cases o with
      | none => cases h3
      | some y => cases y <;> cases h3
    | bor d =>
      obtain ⟨p, rfl, r1, r2, r3⟩ := r
      cases o with
      | none => cases h3
      | some y =>
        cases y with
        | frz d' => cases h3
        | exn c' => cases h3
        | own d' =>
          cases h3
          obtain ⟨v', hv', q, e, _, q2, _⟩ := I.sl i _ h1
          rw [hv] at hv'
          cases hv'
          cases e
          exact ⟨p, rfl, r1, q2, r3⟩
        | bor d' =>
          cases h3
          obtain ⟨v', hv', q, e, _, q2, _⟩ := I.sl i _ h1
          rw [hv] at hv'
          cases hv'
          cases e
          exact ⟨p, rfl, r1, q2, r3⟩
  · obtain ⟨o, z, h1, h2, h3⟩ := back_get hi
    obtain ⟨o', z', h1', h2', h3'⟩ := back_get hj
    have m1 : z.mut = true := by
      cases z with
      | frz d => cases o with
        | none => cases h3; exact ms
        | some y => cases y <;> (cases h3; exact ms)
      | exn c => cases o with
        | none => cases h3
        | some y => cases y <;> cases h3
      | own d => rfl
      | bor d => rfl
    have m2 : z'.mut = true := by
      cases z' with
      | frz d => cases o' with
        | none => cases h3'; exact mt
        | some y => cases y <;> (cases h3'; exact mt)
      | exn c => cases o' with
        | none => cases h3'
        | some y => cases y <;> cases h3'
      | own d => rfl
      | bor d => rfl
    exact J.ds i j z z' p h2 h2' m1 m2 ai aj
  · cases eh : H p with
    | none => exact I.bs p hp eh
    | some o =>
      by_cases hm : MutA env σ p
      · exact J.bs p hm z
      · rw [J.fr p o eh hm] at z; cases z
/-- an object that nobody knows changes -/
theorem In.poke (I : In C F H σ env) {A : Addr} {o o' : HO} (hA : H A = some o') (nF : F A = Option.none) (n0 : C.H0 A = Option.none) (nM : ¬ MutA env σ A) : In C F (upd H A o) σ env := by
  refine ⟨I.f0, fun a x h => ?_, fun a x h hb => ?_, I.nf, I.len, fun i s h => ?_, I.ds, fun q hq => ?_⟩
  · rw [upd_ne (ne_of_none h nF)]; exact I.fh _ _ h
  · rw [upd_ne (ne_of_none h n0)]; exact I.fr _ _ h hb
  · obtain ⟨v, hv, hs⟩ := I.sl i s h
    refine ⟨v, hv, ?_⟩
    cases s with
    | frz d => exact hs
    | exn c => exact hs
    | own d =>
      obtain ⟨q, e, h1, h2, h3⟩ := hs
      have ne : q ≠ A := fun z => nM ⟨i, _, h, rfl, by rw [hv, e, z]⟩
      exact ⟨q, e, h1, h2, h3.keep (.refl _) fun x hx => by rw [upd_ne ne]; exact hx⟩
    | bor d =>
      obtain ⟨q, e, h1, h2, h3⟩ := hs
      have ne : q ≠ A := fun z => nM ⟨i, _, h, rfl, by rw [hv, e, z]⟩
      exact ⟨q, e, h1, h2, h3.keep (.refl _) fun x hx => by rw [upd_ne ne]; exact hx⟩
  · by_cases e : q = A
    · rw [e, upd_same]; exact fun z => nomatch z
    · rw [upd_ne e]; exact I.bs q hq
theorem mut_back {e : DEnv} {A : Addr} (h : MutA (backE env e) σ A) : MutA env σ A := by
  obtain ⟨i, s, h1, h2, h3⟩ := h
  obtain ⟨o, z, q1, q2, q3⟩ := back_get h1
  cases o with
  | none => cases z <;> first | (cases q3; done) | (cases q3; cases h2)
  | some y =>
    cases y with
    | frz d => cases z <;> first | (cases q3; done) | (cases q3; cases h2)
    | exn c => cases z <;> first | (cases q3; done) | (cases q3; cases h2)
    | own d => exact ⟨i, _, q1, rfl, h3⟩
    | bor d => exact ⟨i, _, q1, rfl, h3⟩
theorem qts_nil : PTs X [] (tDT C yesT) := PTs.weak pts_nil fun σ H Q ⟨F, env, I, h⟩ => h.here I
theorem qts_one {c : Expr} {t : DT} (h : PT X c (tDT C t)) : PTs X [c] (tDT C t) := pts_one h
/-- readings in a comprehension's block, whatever the ground -/
structure Gnd (C C' : Cd) : Prop where
  z : C'.rz = false
  k : C'.K = C.K
  m : C'.mg = C.mg
def tGe (C : Cd) (f : DE) : TE := fun σ H Q => ∃ C', Gnd C C' ∧ tDz C' f σ H Q
def tGt (C : Cd) (f : DT) : TT := fun σ H Q => ∃ C', Gnd C C' ∧ tDT C' f σ H Q
def tGg (C : Cd) (ts : List Nat) (g : DG) : TG := fun v σ H Q => ∃ C', Gnd C C' ∧ tDG C' ts g v σ H Q
theorem t_lc {fi : DI} {gg : DG} {tt : DT} {te : DE} {ts vs zs : List Nat} {Q : VK} (hts : ∀ i ∈ ts, i ∈ vs) : tD C (compD fi gg tt te vs zs) σ H Q → tLc (tDI C fi) (tGg C ts gg) (tGt C tt) (tGe C te) vs σ H Q := fun ⟨F, env, I, h⟩ => ⟨F, env, I, (Fin.bnd h).imp fun ds e F0 H1 I0 s0 h0 J ok0 A nA => by
  obtain ⟨F1, I1, s1⟩ := I0.frzAll zs
  have ok : ItOk C J ds F1 := fun F H σ env i s I => ok0 F H σ env i (s1.trans s) I
  have h1 : Fin C F1 σ (bind0 (lcD gg tt te vs ds [] (wipeE (frzE e zs) vs)) fun q => .ok (.own (.lst q.1), q.2)) fun s e F' H' => ∀ v, Res C F' H' e σ s v → Q v H' := Fin.le s1 h0
  have Iw := I1.wipe vs
  refine ⟨fun i m H => m = ds.length - i ∧ i ≤ ds.length ∧ ∃ F env acc xs, In C F H (L2.wipe σ vs) env ∧ Same F1 F ∧ F A = none ∧ C.H0 A = none ∧ ¬ MutA env (L2.wipe σ vs) A ∧ H A = some (.lst xs) ∧ RepL C.K C.mg F acc xs ∧
    (match lcD gg tt te vs (ds.drop i) acc env with | .ok q => ∀ F' H', In C F' H' σ q.2 → Same F F' → ∀ v, Res C F' H' q.2 σ (.own (.lst q.1)) v → Q v H' | _ => False), ⟨ds.length, by simp, Nat.zero_le _, F1, _, [], [], Iw.fresh nA, .refl _, I1.none nA, I1.none0 nA, fun ⟨i, s, h1, h2, h3⟩ => Iw.slotNe nA i s h1 h2 h3, upd_same, repNil, ?_⟩, ?_⟩
  · rw [List.drop_zero]
    cases el : lcD gg tt te vs ds [] (wipeE (frzE e zs) vs) with
    | no => rw [el] at h1; exact h1
    | er c fs z => rw [el] at h1; exact h1
    | ok q => rw [el] at h1; exact fun F' H' I' s' v r => h1 F' H' I' s' v r
  · rintro i m H ⟨rfl, hi, F, env, acc, xs, I, sF, nF, n0, nM, hA, rA, h⟩
    rcases Nat.lt_or_ge i ds.length with hlt | hge
    · have ed : ds[i]? = some ds[i] := List.getElem?_eq_getElem hlt
      obtain ⟨go, yl⟩ := (ok F H _ env i sF I).1 _ ed
      refine .inr ⟨go, fun H => ∃ F env acc xs, In C F H (L2.wipe σ vs) env ∧ Same F1 F ∧ F A = none ∧ C.H0 A = none ∧ ¬ MutA env (L2.wipe σ vs) A ∧ H A = some (.lst xs) ∧ RepL C.K C.mg F acc xs ∧
        (match lcD gg tt te vs (ds.drop (i + 1)) acc env with | .ok q => ∀ F' H', In C F' H' σ q.2 → Same F F' → ∀ v, Res C F' H' q.2 σ (.own (.lst q.1)) v → Q v H' | _ => False), fun H' q => ⟨ds.length - (i + 1), by omega, rfl, hlt, q⟩, fun x H' y => ?_⟩
      obtain ⟨F', xt, r'⟩ := yl x H' y
      have I' := I.call xt
      have hA' : H' A = some (.lst xs) := xt.hh _ _ hA
      have nF' : F' A = none := by
        cases e : F' A with
        | none => rfl
        | some o =>
          rcases xt.nf A o e with z | z
          · rw [nF] at z; cases z
          · rw [hA] at z; cases z
      rw [List.drop_eq_getElem_cons hlt] at h
      unfold lcD at h
      cases eg : gg ds[i] (lendE env) with
      | none => simp only [eg] at h
      | some e' =>
        simp only [eg] at h
        have Il := I'.lendTo
        refine ⟨⟨C.K, C.mg, F', H', MutA env (L2.wipe σ vs), W0, C.ex, C.exc, false⟩, ⟨rfl, rfl, rfl⟩, F', lendE env, ds[i], e', Il, r', eg, fun σ2 F2 H2 I2 s2 ag => ⟨(wipe_agree ag vs hts).trans (wipe_wipe σ vs), ?_⟩⟩
        have ew : L2.wipe σ2 vs = L2.wipe σ vs := (wipe_agree ag vs hts).trans (wipe_wipe σ vs)
        cases ett : tt e' with
        | no => simp only [ett, bind0] at h
        | er c fs z => simp only [ett, bind0] at h
        | ok p =>
          simp only [ett, bind0_ok] at h
          refine ⟨⟨C.K, C.mg, F', H', MutA env (L2.wipe σ vs), W0, C.ex, C.exc, false⟩, ⟨rfl, rfl, rfl⟩, F2, e', I2, ?_⟩
          rw [ett]
          intro F3 H3 I3 s3
          obtain ⟨b, e3⟩ := p
          cases b with
          | true =>
            simp only at h
            cases ete : te e3 with
            | no => simp only [ete, bind0] at h
            | er c fs z => simp only [ete, bind0] at h
            | ok q =>
              simp only [ete, bind0_ok] at h
              by_cases hl : acc.length < lim
              · rw [if_pos hl] at h
                refine iteT ⟨⟨C.K, C.mg, F', H', MutA env (L2.wipe σ vs), W0, C.ex, C.exc, false⟩, ⟨rfl, rfl, rfl⟩, F3, e3, I3, ?_⟩
                rw [ete]
                intro F4 H4 I4 s4 w rw_
                have hA4 : H4 A = some (.lst xs) := I4.fr A _ hA' nM
                have nF4 : F4 A = none := by
                  cases e : F4 A with
                  | none => rfl
                  | some o =>
                    rcases I4.nf A o e with z | z
                    · have z : F' A = some o := z
                      rw [nF'] at z; cases z
                    · have z : H' A = none := z
                      rw [hA'] at z; cases z
                have I5 := I4.wipe vs
                rw [ew] at I5
                have I6 := I'.backFrom I5
                have nM6 : ¬ MutA (backE env (wipeE q.2 vs)) (L2.wipe σ vs) A := fun z => nM (mut_back z)
                have s14 : Same F F4 := xt.ff.trans I4.f0
                refine ⟨xs, hA4, by rw [rA.len]; exact lim_lt (Nat.le_of_lt hl), F4, _, acc ++ [q.1.d], xs ++ [w], I6.poke hA4 nF4 n0 nM6, sF.trans s14, nF4, n0, nM6, upd_same, (rA.mono s14).app (repCons rw_ repNil), ?_⟩
                revert h
                cases lcD gg tt te vs (ds.drop (i + 1)) (acc ++ [q.1.d]) (backE env (wipeE q.2 vs)) with
                | no => exact fun z => z
                | er c fs z => exact fun z => z
                | ok u => exact fun h F' H' I' s' v r => h F' H' I' (s14.trans s') v r
              · rw [if_neg hl] at h; exact h.elim
          | false =>
            simp only at h
            have hA4 : H3 A = some (.lst xs) := I3.fr A _ hA' nM
            have nF4 : F3 A = none := by
              cases e : F3 A with
              | none => rfl
              | some o =>
                rcases I3.nf A o e with z | z
                · have z : F' A = some o := z
                  rw [nF'] at z; cases z
                · have z : H' A = none := z
                  rw [hA'] at z; cases z
            have I5 := I3.wipe vs
            rw [ew] at I5
            have I6 := I'.backFrom I5
            have nM6 : ¬ MutA (backE env (wipeE e3 vs)) (L2.wipe σ vs) A := fun z => nM (mut_back z)
            have s14 : Same F F3 := xt.ff.trans I3.f0
            refine iteF ⟨F3, _, acc, xs, I6, sF.trans s14, nF4, n0, nM6, hA4, rA.mono s14, ?_⟩
            revert h
            cases lcD gg tt te vs (ds.drop (i + 1)) acc (backE env (wipeE e3 vs)) with
            | no => exact fun z => z
            | er c fs z => exact fun z => z
            | ok u => exact fun h F' H' I' s' v r => h F' H' I' (s14.trans s') v r
    · have e : i = ds.length := by omega
      subst e
      rw [List.drop_length] at h
      refine .inl ⟨(ok F H _ env _ sF I).2 rfl, h F H I.unwipe (.refl _) (.ref A) ⟨A, rfl, nF, n0, ⟨xs, hA, rA⟩, fun i s h1 h2 h3 => ?_⟩⟩
      obtain ⟨v, hv, _⟩ := I.sl i s h1
      have := (wipe_some hv).1
      rw [h3] at this
      cases this
      exact nM ⟨i, s, h1, h2, hv⟩⟩
variable {elt tg iter : Expr} {ifs : List Expr} {scope : Scope} {own : List (Str × Nat)} {pos spos py : Pos} {fi : DI} {gg : DG} {tt : DT} {te : DE} {ts zs : List Nat}
theorem Fit.blk {C' : Cd} {s : Shared} {H : Hp} {scope : Scope} {cenv : Env} {fp : List Addr} (ft : Fit X C) (g : Gnd C C') : Fit (X.blk s H scope cenv fp) C' := ⟨ft.k.trans g.k.symm, ft.m.trans g.m.symm⟩
theorem PE.ex {X : Cx} {e : Expr} {f : DE} (h : ∀ C', Gnd C C' → PE X e (tD C' f)) : PE X e (tGe C f) := ⟨fun pins s σ H Q I ⟨C', g, w⟩ => (qz (h C' g)).run pins s σ H Q I w⟩
theorem PTs.ex {X : Cx} {e : List Expr} {f : DT} (h : ∀ C', Gnd C C' → PTs X e (tDT C' f)) : PTs X e (tGt C f) := ⟨fun pins s σ H Q I ⟨C', g, w⟩ => (h C' g).run pins s σ H Q I w⟩
theorem PG.ex {X : Cx} {e : Expr} {ts : List Nat} {f : DG} (h : ∀ C', Gnd C C' → PG X e (tDG C' ts f)) : PG X e (tGg C ts f) := ⟨fun pins s σ H v u Q I r ⟨C', g, w⟩ => (h C' g).run pins s σ H v u Q I r w⟩
theorem qe_lc (hc : X.calm = true) (hN : X.N.Nodup) (hi : PI X tg iter (tDI C fi)) (ok : BlkOk X.N X.env.scope scope own)
    (hg : ∀ (s : Shared) (H : Hp) (A : Addr) (cl : List (Str × Addr)) (fp : List Addr) (C' : Cd), Gnd C C' → PG (X.blk s H scope (compEnvC scope cl A X.env) fp) tg (tDG C' ts gg)) (ht : ∀ (s : Shared) (H : Hp) (A : Addr) (cl : List (Str × Addr)) (fp : List Addr) (C' : Cd), Gnd C C' → PTs (X.blk s H scope (compEnvC scope cl A X.env) fp) ifs (tDT C' tt))
    (he : ∀ (s : Shared) (H : Hp) (A : Addr) (cl : List (Str × Addr)) (fp : List Addr) (C' : Cd), Gnd C C' → PE (X.blk s H scope (compEnvC scope cl A X.env) fp) elt (tD C' te)) (hts : ∀ i ∈ ts, i ∈ own.map (·.2) := by decide) (hs : ∀ x, foldedSetIterable iter X.env x = pure x := by intro _; rfl) :
    PE X (.ListComp elt [⟨tg, iter, ifs, 0⟩] scope pos) (tD C (compD fi gg tt te (own.map (·.2)) zs)) :=
  PE.weak (pe_lc hc hN hi ok (fun s H A cl fp => PG.ex (hg s H A cl fp)) (fun s H A cl fp => PTs.ex (ht s H A cl fp)) (fun s H A cl fp => PE.ex (he s H A cl fp)) hs) fun _ _ _ h => t_lc hts h
theorem qs_setLc {i : Nat} {y : Str} (hc : X.calm = true) (hN : X.N.Nodup) (hy : X.N[i]? = some y) (hyl : X.env.scope.names.lookup y = some .local) (hsw : swapsWith (.ListComp elt [⟨tg, iter, ifs, 0⟩] scope pos) (some (.Name y py)) spos.line X.env = pure true) (hi : PI X tg iter (tDI C fi)) (ok : BlkOk X.N X.env.scope scope own)
    (hg : ∀ (s : Shared) (H : Hp) (A : Addr) (cl : List (Str × Addr)) (fp : List Addr) (C' : Cd), Gnd C C' → PG (X.blk s H scope (compEnvC scope cl A X.env) fp) tg (tDG C' ts gg)) (ht : ∀ (s : Shared) (H : Hp) (A : Addr) (cl : List (Str × Addr)) (fp : List Addr) (C' : Cd), Gnd C C' → PTs (X.blk s H scope (compEnvC scope cl A X.env) fp) ifs (tDT C' tt))
    (he : ∀ (s : Shared) (H : Hp) (A : Addr) (cl : List (Str × Addr)) (fp : List Addr) (C' : Cd), Gnd C C' → PE (X.blk s H scope (compEnvC scope cl A X.env) fp) elt (tD C' te)) (hts : ∀ i ∈ ts, i ∈ own.map (·.2) := by decide) (hs : ∀ x, foldedSetIterable iter X.env x = pure x := by intro _; rfl) :
    PS X (.Assign [.Name y py] (.ListComp elt [⟨tg, iter, ifs, 0⟩] scope pos) spos) (tDS C (setD i (compD fi gg tt te (own.map (·.2)) zs))) :=
  PS.weak (ps_setLc hc hN hy hyl hsw hi ok (fun s H A cl fp => PG.ex (hg s H A cl fp)) (fun s H A cl fp => PTs.ex (ht s H A cl fp)) (fun s H A cl fp => PE.ex (he s H A cl fp)) hs) fun T σ H h => t_lc hts (t_set h)
end
end Dd

namespace Dd
open PySem PySem.Spec PyProof.Rows L2
/-! ### methods that change a list -/
def isL : D → Bool
  | .lst _ => true
  | _ => false
def mutD (g : List D → List D → Option (Sl × List D)) (i : Nat) (fs : List DE) : DE := fun env => match env[i]? with
  | some (some s0) => if s0.mut && isL s0.d then (argsD fs env).bind fun p => (match p.2[i]? with
    | some (some s) => (match s.mut, s.d with
      | true, .lst ds => (match g ds p.1 with
        | some (r, ds') => .ok (r, p.2.set i (some (s.put (.lst ds'))))
        | none => .no)
      | _, _ => .no)
    | _ => .no) else .no
  | _ => .no
def scalar : Sl → V → Prop
  | .frz d, v => flatD d = true ∧ ∀ K mg H, Rep K mg H d v
  | _, _ => False
def MuOk (C : Cd) (r : V → List V → Hp → VK → Prop) (g : List D → List D → Option (Sl × List D)) : Prop := ∀ (F H : Hp) (p : Addr) (xs vs : List V) (ds es ds' : List D) (s : Sl) (Q : VK), H p = some (.lst xs) → RepL C.K C.mg F ds xs → RepL C.K C.mg F es vs → g ds es = some (s, ds') →
  (∀ xs' v, RepL C.K C.mg F ds' xs' → (match s with | .frz d => Rep C.K C.mg F d v | _ => False) → Q v (upd H p (.lst xs'))) → r (.ref p) vs H Q
section
variable {X : Cx} {C : Cd} {o e : Expr} {es : List Expr} {fs : List DE} {apos cpos pos : Pos} {name : Str} {id : String}
theorem t_mut {i : Nat} {r : V → List V → Hp → VK → Prop} {g : List D → List D → Option (Sl × List D)} (ok : MuOk C r g) {σ : L2.St} {H : Hp} {Q : VK} : tD C (mutD g i fs) σ H Q → tBM C.K "list" r (tVar i) (tDA C fs) σ H Q := fun ⟨F, env, I, h⟩ => by
  unfold mutD at h
  cases ei : env[i]? with
  | none => rw [ei] at h; exact h.elim
  | some z =>
    cases z with
    | none => rw [ei] at h; exact h.elim
    | some s0 =>
      rw [ei] at h
      simp only at h
      by_cases hm : (s0.mut && isL s0.d) = true
      · rw [if_pos hm] at h
        rw [Bool.and_eq_true] at hm
        have own0 : ∃ p xs, σ[i]? = some (some (.ref p)) ∧ H p = some (.lst xs) := by
          obtain ⟨v, hv, hs⟩ := I.sl i s0 ei
          have : ∀ d p, Own C.K C.mg F H d p → isL d = true → ∃ xs, H p = some (.lst xs) := fun d p ho hl => by
            cases d <;> first | (cases hl; done) | (obtain ⟨xs, h1, _⟩ := ho; exact ⟨xs, h1⟩)
          cases s0 with
          | frz d => cases hm.1
          | exn c => cases hm.1
          | own d => obtain ⟨p, rfl, _, _, ho⟩ := hs; obtain ⟨xs, hx⟩ := this d p ho hm.2; exact ⟨p, xs, hv, hx⟩
          | bor d => obtain ⟨p, rfl, _, _, ho⟩ := hs; obtain ⟨xs, hx⟩ := this d p ho hm.2; exact ⟨p, xs, hv, hx⟩
        obtain ⟨p, xs, hv, hx⟩ := own0
        refine ⟨_, hv, .inl ⟨rfl, xs, .inl (.inl hx)⟩, F, env, I, (Fin.bnd h).imp fun ds e F1 H1 I1 s1 h1 vs rv => ?_⟩
        cases e1 : e[i]? with
        | none => simp only [e1] at h1; exact h1.elim
        | some z =>
          cases z with
          | none => simp only [e1] at h1; exact h1.elim
          | some s =>
            simp only [e1] at h1
            obtain ⟨v', hv', hs⟩ := I1.sl i s e1
            rw [hv] at hv'
            cases hv'
            have fin : ∀ zs, s.mut = true → s.d = .lst zs → Own C.K C.mg F1 H1 (.lst zs) p → r (.ref p) vs H1 Q := by
              intro zs ms hd ho
              simp only [ms, hd] at h1
              obtain ⟨ys, hy, ry⟩ := ho
              cases eg : g zs ds with
              | none => simp only [eg] at h1; exact h1.elim
              | some q =>
                obtain ⟨t, ds'⟩ := q
                simp only [eg] at h1
                refine ok F1 H1 p ys vs zs ds ds' t Q hy ry rv eg fun xs' v rx hvv => ?_
                cases t with
                | frz d => exact h1 F1 _ (I1.change e1 ms hv ⟨xs', upd_same, rx⟩) (.refl _) v hvv
                | _ => exact hvv.elim
            cases s with
            | frz d => simp only [Sl.mut] at h1; exact h1.elim
            | exn c => simp only [Sl.mut] at h1; exact h1.elim
            | own d =>
              obtain ⟨q, e, _, _, ho⟩ := hs
              cases e
              cases d with
              | lst zs => exact fin zs rfl rfl ho
              | _ => simp only [Sl.mut, Sl.d] at h1; exact h1.elim
            | bor d =>
              obtain ⟨q, e, _, _, ho⟩ := hs
              cases e
              cases d with
              | lst zs => exact fin zs rfl rfl ho
              | _ => simp only [Sl.mut, Sl.d] at h1; exact h1.elim
      · rw [if_neg hm] at h; exact h.elim
def gAppend : List D → List D → Option (Sl × List D)
  | ds, [e] => if ds.length < lim then some (.frz .non, ds ++ [e]) else none
  | _, _ => none
theorem ok_append : MuOk C rAppend gAppend := by
  intro F H p xs vs ds es ds' s Q hp r1 r2 hg k
  unfold gAppend at hg
  split at hg
  · split at hg
    · rename_i hl
      cases hg
      obtain ⟨x, rfl, rx⟩ := rep1 r2
      exact ⟨p, xs, x, rfl, rfl, hp, by rw [r1.len]; exact lim_lt (Nat.le_of_lt hl), k _ _ (r1.app (repCons rx repNil)) rNon⟩
    · cases hg
  · cases hg
def gInsert : List D → List D → Option (Sl × List D)
  | ds, [.int i, e] => if ds.length < lim ∧ 0 ≤ i ∧ i < 2 ^ 63 then some (.frz .non, ds.take i.toNat ++ [e] ++ ds.drop i.toNat) else none
  | _, _ => none
def rInsert : V → List V → Hp → VK → Prop := fun x vs H Q => ∃ (l : Addr) (xs : List V) (i : Int) (y : V), x = .ref l ∧ vs = [.int i, y] ∧ H l = some (.lst xs) ∧ xs.length < sizeLine ∧ 0 ≤ i ∧ i < 2 ^ 63 ∧ Q .non (upd H l (.lst (xs.take i.toNat ++ [y] ++ xs.drop i.toNat)))
theorem ok_insert : MuOk C rInsert gInsert := by
  intro F H p xs vs ds es ds' s Q hp r1 r2 hg k
  unfold gInsert at hg
  split at hg
  · split at hg
    · rename_i hl
      cases hg
      obtain ⟨x, y, rfl, rx, ry⟩ := rep2 r2
      rw [rx.int]
      exact ⟨p, xs, _, y, rfl, rfl, hp, by rw [r1.len]; exact lim_lt (Nat.le_of_lt hl.1), hl.2.1, hl.2.2, k _ _ (((r1.take _).app (repCons ry repNil)).app (r1.drop _)) rNon⟩
    · cases hg
  · cases hg
theorem qe_mut {i : Nat} {r : V → List V → Hp → VK → Prop} {g : List D → List D → Option (Sl × List D)} (ft : Fit X C) (pa : PlainAttrs "list") (slot : Slot "list" name id) (hty : typeOf (.builtin id) = pure (.type "method_descriptor")) (hm : MtR X id r) (ok : MuOk C r g) (ho : PE X o (tVar i)) (ha : PA X (e :: es) (tDA C fs))
    (hbase : attributeBase o name X.env (eval o X.env) = eval o X.env := by rfl)
    (hfew : ((backTo cpos (starEach (e :: es) X.env)).all (fun x => !x.1) && (backToKw cpos (keywordEach [] X.env)).all (fun x => x.1.isSome)
      && decide ((e :: es).length + ([] : List Keyword).length + (if ([] : List Keyword).isEmpty then 0 else 1) < 30)) = true := by rfl)
    (hline : (apos.endLine == cpos.line) = true := by rfl) (hs : starEach (e :: es) X.env = (false, eval e X.env) :: starEach es X.env := by rfl) (hplain : (backTo cpos (starEach es X.env)).any (·.1) = false := by rfl) :
    PE X (.Call (.Attribute o name apos) (e :: es) [] cpos) (tD C (mutD g i fs)) := by
  have q := pe_bm (apos := apos) pa slot hty hm ho ha hbase hfew hline hs hplain
  rw [ft.k] at q
  exact PE.weak q fun _ _ _ h => t_mut ok h
/-- x[i] = e -/
def setIxD (i : Nat) (fe fk : DE) : DS := fun env => bindS (fe env) fun p => match p.2[i]? with
  | some (some _) => bindS (fk p.2) fun q => (match q.2[i]? with
    | some (some s) => (match s.mut, s.d, q.1.d with
      | true, .lst ds, .int k => (match ixN ds.length k with
        | some j => .ok (.nx (q.2.set i (some (s.put (.lst (ds.set j p.1.d))))))
        | none => .no)
      | _, _, _ => .no)
    | _ => .no)
  | _ => .no
theorem qs_setIx {i : Nat} {k : Expr} {fe fk : DE} {tpos : Pos} (ho : PE X o (tVar i)) (hk : PE X k (tD C fk)) (he : PE X e (tD C fe))
    (hset : ∀ v, assign (.Subscript o k tpos) X.env v = (do
      let ov ← holding [v] (eval o X.env)
      let iv ← holding [v, ov] (eval k X.env)
      standAt tpos
      holding [v, ov, iv] (setItem ov iv v)
      release [v, ov, iv] []) := by intro _; rfl)
    (hs : swapsWithSole [.Subscript o k tpos] e pos.line X.env = pure false := by rfl) (hw : swappedStores [.Subscript o k tpos] e X.env = pure none := by rfl)
    (h1 : (assignEach [.Subscript o k tpos] X.env).map (·.2) = [assign (.Subscript o k tpos) X.env] := by rfl) : PS X (.Assign [.Subscript o k tpos] e pos) (tDS C (setIxD i fe fk)) :=
  PS.weak (ps_asg (qz he) (pg_sub ho (qz hk) set_list hset) hs hw h1) fun T σ H ⟨F, env, I, h⟩ => ⟨F, env, I, (FinS.bnd h).imp fun s e F1 H1 I1 s1 h1 v rv => by
    cases ei : e[i]? with
    | none => simp only [ei] at h1; exact h1.elim
    | some z =>
      cases z with
      | none => simp only [ei] at h1; exact h1.elim
      | some s0 =>
        simp only [ei] at h1
        obtain ⟨w, hv, _⟩ := I1.sl i s0 ei
        refine ⟨w, hv, F1, e, I1, (FinS.bnd h1).imp fun t e2 F2 H2 I2 s2 h2 y ry => ?_⟩
        cases e1 : e2[i]? with
        | none => simp only [e1] at h2; exact h2.elim
        | some z =>
          cases z with
          | none => simp only [e1] at h2; exact h2.elim
          | some u =>
            simp only [e1] at h2
            obtain ⟨v', hv', hs⟩ := I2.sl i u e1
            rw [hv] at hv'
            cases hv'
            have fin : ∀ zs p, w = .ref p → u.mut = true → u.d = .lst zs → Own C.K C.mg F2 H2 (.lst zs) p → rSetL w y v H2 fun H3 => T.nx σ H3 := by
              intro zs p ew mu hd ho
              subst ew
              obtain ⟨ys, hy, rys⟩ := ho
              cases hk : t.d with
              | int k =>
                simp only [mu, hd, hk] at h2 ry
                cases ej : ixN zs.length k with
                | none => simp only [ej] at h2; exact h2.elim
                | some j =>
                  simp only [ej] at h2
                  exact ⟨p, ys, k, j, rfl, ry.int, hy, by rw [rys.len]; exact ej, h2 σ F2 _ (I2.change e1 mu hv ⟨_, upd_same, rys.set j (rv.mono s2)⟩) (.refl _)⟩
              | _ => simp only [mu, hd, hk] at h2; exact h2.elim
            cases u with
            | frz d => simp only [Sl.mut] at h2; exact h2.elim
            | exn c => simp only [Sl.mut] at h2; exact h2.elim
            | own d =>
              obtain ⟨q, rfl, _, _, ho⟩ := hs
              cases d with
              | lst zs => exact fin zs q rfl rfl rfl ho
              | _ => simp only [Sl.mut, Sl.d] at h2; exact h2.elim
            | bor d =>
              obtain ⟨q, rfl, _, _, ho⟩ := hs
              cases d with
              | lst zs => exact fin zs q rfl rfl rfl ho
              | _ => simp only [Sl.mut, Sl.d] at h2; exact h2.elim⟩
/-- a, b = x, y -/
def parD (i j : Nat) (fs : List DE) : DS := fun env => bindS (argsD fs env) fun p => match p.1 with
  | [a, b] => .ok (.nx ((p.2.set i (some (.frz a))).set j (some (.frz b))))
  | _ => .no
theorem t_par {i j : Nat} {T : Ends} {σ : L2.St} {H : Hp} : tDS C (parD i j fs) T σ H → tPar i j (tDA C fs) T σ H := fun ⟨F, env, I, h⟩ => ⟨F, env, I, (FinS.bnd h).imp fun ds e F1 H1 I1 s1 h1 vs rv => by
  simp only at h1
  split at h1
  · obtain ⟨x, y, rfl, rx, ry⟩ := rep2 rv
    exact ⟨x, y, rfl, h1 _ F1 H1 ((I1.put rx).put ry) (.refl _)⟩
  · exact h1.elim⟩
/-- a < b < c -/
def chainD (g g' : D → D → Option Sl) (fa fb fc : DE) : DE := fun env => (fa env).bind fun p => (fb p.2).bind fun q => match g p.1.d q.1.d with
  | some (.frz (.bl true)) => (fc q.2).bind fun r => (match g' q.1.d r.1.d with
    | some (.frz (.bl b)) => .ok (.frz (.bl b), r.2)
    | _ => .no)
  | some (.frz (.bl false)) => .ok (.frz (.bl false), q.2)
  | _ => .no
end
/-! ### what is raised and caught -/
def raiseD (c : Str) : DS := fun env => .er c [] env
section
variable {X : Cx} {C : Cd} {e : Expr} {pos : Pos} {c : Str}
theorem qs_raise {t : L2.St → Hp → XK → Prop} (hc : X.calm = true) (tk : Takes X C.W) (he : PMk X e t) (ht : ∀ σ H Q, Q (.ref (clsA C.mg c)) none H → t σ H Q) : PS X (.Raise (some e) none pos) (tDS C (raiseD c)) :=
  PS.weak (ps_raise hc tk he) fun T σ H ⟨F, env, I, h⟩ => ht σ H _ (h.2 none σ F H I (.refl _) rfl)
theorem qs_raise0 {st : Stmt} (hW : C.rz = false) : PS X st (tDS C (raiseD c)) :=
  PS.weak ps_never fun T σ H ⟨F, env, I, h⟩ => by
    have q := h.1
    rw [hW] at q
    exact nomatch q
/-- code that is never come to -/
def noD : DS := fun _ => .no
theorem qs_no {st : Stmt} : PS X st (tDS C noD) := PS.weak ps_never fun T σ H ⟨F, env, I, h⟩ => h.elim
end
def isExn : Option Sl → Bool
  | some (.exn _) => true
  | _ => false
def noExn (env : DEnv) : DEnv := env.map fun o => if isExn o then none else o
/-- try: body except X as n: suite; cl: what is caught -/
def tryD (gb : DS) (i : Nat) (cl : Str → Bool) (gs : DS) : DS := fun env => match gb env with
  | .er c [] e => if cl c then (match gs ((noExn e).set i (some (.exn c))) with
    | .ok (.nx z) => .ok (.nx (noExn (z.set i none)))
    | .ok (.bk z) => .ok (.bk (noExn (z.set i none)))
    | .ok (.ct z) => .ok (.ct (noExn (z.set i none)))
    | .ok (.rt s z) => .ok (.rt s (noExn z))
    | _ => .no) else .no
  | .er _ _ _ => .no
  | r => r
section
variable {X : Cx} {C : Cd} {F H : Hp} {σ : L2.St} {env : DEnv}
theorem noExn_get {i : Nat} {s : Sl} (h : (noExn env)[i]? = some (some s)) : env[i]? = some (some s) ∧ ∀ c, s ≠ .exn c := by
  unfold noExn at h
  rw [List.getElem?_map] at h
  cases e : env[i]? with
  | none => rw [e] at h; cases h
  | some o =>
    rw [e] at h
    simp only [Option.map] at h
    cases o with
    | none => cases h
    | some t =>
      cases t <;> first | (cases h; done) | skip
      all_goals (simp [isExn] at h; subst h; exact ⟨rfl, fun c z => nomatch z⟩)
/-- the ground but for what is raised -/
structure Alike (C C' : Cd) : Prop where
  k : C'.K = C.K
  m : C'.mg = C.mg
  f : C'.F0 = C.F0
  h : C'.H0 = C.H0
  b : C'.B = C.B
theorem In.noExn {C' : Cd} (al : Alike C C') (I : In C F H σ env) : In C' F H σ (noExn env) := by
  obtain ⟨K', mg', F0', H0', B', W', ex', exc', rz'⟩ := C'
  obtain ⟨e1, e2, e3, e4, e5⟩ := al
  simp only at e1 e2 e3 e4 e5
  subst e1 e2 e3 e4 e5
  refine ⟨I.f0, I.fh, I.fr, I.nf, by unfold Dd.noExn; rw [List.length_map]; exact I.len, fun i s h => ?_, fun i j s t p hi hj => I.ds i j s t p (noExn_get hi).1 (noExn_get hj).1, I.bs⟩
  obtain ⟨h1, h2⟩ := noExn_get h
  obtain ⟨v, hv, r⟩ := I.sl i s h1
  refine ⟨v, hv, ?_⟩
  cases s with
  | frz d => exact r
  | own d => exact r
  | bor d => exact r
  | exn c => exact absurd rfl (h2 c)
theorem Res.noExn {C' : Cd} (al : Alike C C') {s : Sl} {v : V} (r : Res C F H env σ s v) : Res C' F H (noExn env) σ s v := by
  obtain ⟨K', mg', F0', H0', B', W', ex', exc', rz'⟩ := C'
  obtain ⟨e1, e2, e3, e4, e5⟩ := al
  simp only at e1 e2 e3 e4 e5
  subst e1 e2 e3 e4 e5
  cases s with
  | frz d => exact r
  | own d =>
    obtain ⟨p, rfl, f⟩ := r
    exact ⟨p, rfl, f.f, f.h0, f.o, fun i s h => f.ne i s (noExn_get h).1⟩
  | bor d => exact r.elim
  | exn c => exact r.elim
theorem In.setExn (I : In C F H σ env) (i : Nat) : In C F H (σ.set i (some (.ref C.ex))) (env.set i (some (.exn C.exc))) := by
  refine ⟨I.f0, I.fh, I.fr, I.nf, by rw [List.length_set, List.length_set]; exact I.len, fun j s hj => ?_, fun j k s t p hj hk ms mt aj ak => ?_, I.bs⟩
  · by_cases e : i = j
    · subst e
      obtain ⟨hl, es⟩ := set_self hj
      cases es
      refine ⟨_, ?_, rfl, rfl⟩
      rw [List.getElem?_set_self (by rw [I.len]; exact hl)]
    · rw [List.getElem?_set_ne e] at hj ⊢
      exact I.sl j s hj
  · by_cases e : i = j
    · subst e
      obtain ⟨hl, es⟩ := set_self hj
      cases es
      cases ms
    · by_cases e' : i = k
      · subst e'
        obtain ⟨hl, es⟩ := set_self hk
        cases es
        cases mt
      · rw [List.getElem?_set_ne e] at hj aj
        rw [List.getElem?_set_ne e'] at hk ak
        exact I.ds j k s t p hj hk ms mt aj ak
theorem In.reW {W : WX} (I : In C F H σ env) : In { C with W := W, rz := true } F H σ env := ⟨I.f0, I.fh, I.fr, I.nf, I.len, I.sl, I.ds, I.bs⟩
theorem In.unW {W : WX} (I : In { C with W := W, rz := true } F H σ env) : In C F H σ env := ⟨I.f0, I.fh, I.fr, I.nf, I.len, I.sl, I.ds, I.bs⟩
theorem Res.unW {W : WX} {s : Sl} {v : V} (r : Res { C with W := W, rz := true } F H env σ s v) : Res C F H env σ s v := by
  cases s with
  | frz d => exact r
  | own d =>
    obtain ⟨p, rfl, f⟩ := r
    exact ⟨p, rfl, f.f, f.h0, f.o, f.ne⟩
  | bor d => exact r.elim
  | exn c => exact r.elim
def suiteC (C : Cd) (a : Addr) (c : Str) : Cd := { C with W := W0, ex := a, exc := c, rz := false }
def tSu (C : Cd) (cl : Str → Bool) (gs : DS) (a : Addr) (cls : Value) (d : Option Addr) : TS := fun T σ H => ∃ c, cl c = true ∧ cls = .ref (clsA C.mg c) ∧ d = none ∧ tDS (suiteC C a c) gs T σ H
theorem t_try {x : Str} {i : Nat} {cl : Str → Bool} {gb gs : DS} {T : Ends} (caught : ∀ c, cl c = true → PySem.W.exmOne C.K (.ref (clsA C.mg c)) (.ref (clsA C.mg x)) = some true) :
    tDS C (tryD gb i cl gs) T σ H → tDS { C with W := wAs C.K (.ref (clsA C.mg x)) i (tSu C cl gs) W0 T, rz := true } gb T σ H := fun ⟨F, env, I, h⟩ => ⟨F, env, I.reW, by
  unfold tryD at h
  cases e : gb env with
  | no => rw [e] at h; exact h
  | ok o =>
    rw [e] at h
    cases o with
    | nx z => exact fun σ' F' H' I' s' => h σ' F' H' I'.unW s'
    | bk z => exact fun σ' F' H' I' s' => h σ' F' H' I'.unW s'
    | ct z => exact fun σ' F' H' I' s' => h σ' F' H' I'.unW s'
    | rt s z => exact fun v σ' F' H' I' s' r => h v σ' F' H' I'.unW s' r.unW
  | er c fs z =>
    rw [e] at h
    cases fs with
    | cons f r => exact h.elim
    | nil =>
      simp only at h
      by_cases hc : cl c = true
      · rw [if_pos hc] at h
        refine ⟨rfl, ?_⟩
        intro y σ' F' H' I' s' er
        obtain rfl : y = none := er
        refine ⟨true, caught c hc, fun _ a na => ⟨c, hc, rfl, rfl, F', (noExn z).set i (some (.exn c)), In.setExn (C := suiteC C a c) (In.noExn (C := C) (C' := suiteC C a c) ⟨rfl, rfl, rfl, rfl, rfl⟩ I'.unW) i, ?_⟩, fun q => nomatch q⟩
        have al : Alike (suiteC C a c) C := ⟨rfl, rfl, rfl, rfl, rfl⟩
        cases eg : gs ((noExn z).set i (some (.exn c))) with
        | no => simp only [eg] at h; exact h.elim
        | er c fs e => simp only [eg] at h; exact h.elim
        | ok o =>
          cases o with
          | nx y => simp only [eg] at h; exact fun σ2 F2 H2 I2 s2 => h _ F2 H2 ((I2.drop i Option.none).noExn al) (s'.trans s2)
          | bk y => simp only [eg] at h; exact fun σ2 F2 H2 I2 s2 => h _ F2 H2 ((I2.drop i Option.none).noExn al) (s'.trans s2)
          | ct y => simp only [eg] at h; exact fun σ2 F2 H2 I2 s2 => h _ F2 H2 ((I2.drop i Option.none).noExn al) (s'.trans s2)
          | rt s y => simp only [eg] at h; exact fun v σ2 F2 H2 I2 s2 r => h v σ2 F2 H2 (I2.noExn al) (s'.trans s2) (r.noExn al)
      · rw [if_neg hc] at h; exact h.elim⟩
theorem qs_try_as {x n : Str} {i : Nat} {cl : Str → Bool} {gb gs : DS} {body suite : List Stmt} {b₀ : Stmt} {np pos pos' : Pos} (ft : Fit X C) (hs : X.stack = X.env :: X.outer) (hf : X.env.frame = some X.env.locals) (hN : X.N.Nodup) (hi : X.N[i]? = some n) (hln : X.env.kindOf n = some .local) (hc : Names X x (.ref (clsA C.mg x)))
    (caught : ∀ c, cl c = true → PySem.W.exmOne C.K (.ref (clsA C.mg c)) (.ref (clsA C.mg x)) = some true)
    (hb : ∀ (W : WX) (pn : List (Addr × Obj)) (xe : Value → Shared → Prop), Takes (X.tr pn xe) W → PassesOwn (model X.prog X.w) X.A X.env xe → PSs (X.tr pn xe) body (tDS { C with W := W, rz := true } gb))
    (hsu : ∀ (a : Addr) (oe : Obj) (pn : List (Addr × Obj)) (c : Str), cl c = true → Zc (.ref (clsA C.mg c)) none oe → (∃ vs, oe.data = .fields vs) → PSs (X.suite a ((a, oe) :: pn)) (b₀ :: suite) (tDS (suiteC C a c) gs)) :
    PS X (.Try body [.ExceptHandler (some (.Name x np)) (some n) (b₀ :: suite) pos'] [] [] pos) (tDS C (tryD gb i cl gs)) := by
  have q := ps_try_as (tb := fun W => tDS { C with W := W, rz := true } gb) (ts := tSu C cl gs) (Wout := W0) (np := np) (pos := pos) (pos' := pos') hs hf hN hi hln hc takes0 hb (fun a oe cls d pn hz hv => ⟨fun pins s σ H D I ⟨c, h1, h2, h3, w⟩ => by
    subst h2 h3
    exact (hsu a oe pn c h1 hz hv).run pins s σ H D I w⟩)
  rw [ft.k] at q
  exact PS.weak q fun T σ H h => t_try caught h
/-- isinstance(e, T) in the suite -/
def isED (i : Nat) (sub : Str → Option Bool) : DE := fun env => match env[i]? with
  | some (some (.exn c)) => (match sub c with
    | some b => .ok (.frz (.bl b), env)
    | none => .no)
  | _ => .no
theorem qe_isE {a : Addr} {oe : Obj} {pn : List (Addr × Obj)} {c : Str} {cv : V} {cw : Value} {i : Nat} {sub : Str → Option Bool} {e1 e2 : Expr} {p pos : Pos} (ft : Fit X C) (ex : ExcC C.K (clsA C.mg c)) (hz : Zc (.ref (clsA C.mg c)) none oe) (hf : ∃ vs, oe.data = .fields vs)
    (hsub : ∀ b, sub c = some b → PySem.W.kitOne C.K (.ref (clsA C.mg c)) cw = some b) (hcw : ∀ u, RelV cv u → u = cw) (hg : Gl X "isinstance") (hm : X.mg "isinstance" = none) (h1 : PE (X.suite a ((a, oe) :: pn)) e1 (tVar i)) (h2 : PE (X.suite a ((a, oe) :: pn)) e2 (tC cv))
    (hx1 : starEach [e1, e2] X.env = (false, eval e1 X.env) :: starEach [e2] X.env := by rfl) (hx2 : starEach [e2] X.env = (false, eval e2 X.env) :: starEach [] X.env := by rfl) (hpl : (backTo pos (starEach [e2] X.env)).any (·.1) = false := by rfl) :
    PE (X.suite a ((a, oe) :: pn)) (.Call (.Name "isinstance" p) [e1, e2] [] pos) (tD (suiteC C a c) (isED i sub)) := by
  rw [← ft.k] at ex
  have q := pe_callB (X := X.suite a ((a, oe) :: pn)) (x := "isinstance") (p := p) (pos := pos) (call_isE ex hz hf) hg hm (by decide +kernel) (pa_cons h1 (pa_cons h2 pa_nil hx2) hx1) (by decide) (by decide) hx1 hpl
  refine PE.weak q fun σ H Q ⟨F, env, I, h⟩ => ?_
  unfold isED at h
  cases ei : env[i]? with
  | none => rw [ei] at h; exact h.elim
  | some z =>
    rw [ei] at h
    cases z with
    | none => exact h.elim
    | some s =>
      cases s with
      | exn c' =>
        simp only at h
        obtain ⟨v, hv, e1, e2⟩ := I.sl i _ ei
        have e2 : c' = c := e2
        have e1 : v = .ref a := e1
        subst e2 e1
        cases es : sub c' with
        | none => simp only [es] at h; exact h.elim
        | some b =>
          simp only [es] at h
          refine ⟨_, hv, cv, cw, b, rfl, hcw, ?_, h.here I _ (show Rep C.K C.mg F _ _ from rBl)⟩
          have := hsub b es
          rw [← ft.k] at this
          exact this
      | _ => exact h.elim
end
section
variable {X : Cx} {C : Cd} {a b c : Expr} {fa fb fc : DE} {pos : Pos}
theorem OpOk.bl {r : R2} {g : D → D → Option Sl} (ok : OpOk C r g) {F H : Hp} {σ : L2.St} {env : DEnv} {x y : V} {d e : D} {k : Bool} {Q : VK} (I : In C F H σ env) (rx : Rep C.K C.mg F d x) (ry : Rep C.K C.mg F e y) (hg : g d e = some (.frz (.bl k))) (q : ∀ F' H', In C F' H' σ env → Same F F' → Q (.bl k) H') : r x y H Q :=
  ok F H σ env x y d e _ Q I rx ry hg fun v F' H' I' s' rv => by
    have rv : Rep C.K C.mg F' (.bl k) v := rv
    rw [rv.bl]
    exact q F' H' I' s'
theorem t_chain {r r' : R2} {g g' : D → D → Option Sl} (ok : OpOk C r g) (ok' : OpOk C r' g') {σ : L2.St} {H : Hp} {Q : VK} : tD C (chainD g g' fa fb fc) σ H Q → tChain r r' (tDz C fa) (tDz C fb) (tDz C fc) σ H Q := fun ⟨F, env, I, h⟩ =>
  ⟨F, env, I, (Fin.bnd h).imp fun s e F1 H1 I1 s1 h1 x rx => ⟨F1, e, I1, (Fin.bnd h1).imp fun t e2 F2 H2 I2 s2 h2 y ry => by
    cases eg : g s.d t.d with
    | none => simp only [eg] at h2; exact h2.elim
    | some z =>
      cases z with
      | frz d =>
        cases d with
        | bl k =>
          refine ok.bl I2 (rx.mono s2) ry eg fun F3 H3 I3 s3 => ⟨k, rfl, ?_⟩
          cases k with
          | false => simp only [eg] at h2; exact iteF (h2 F3 H3 I3 s3 _ (show Rep C.K C.mg F3 _ _ from rBl))
          | true =>
            simp only [eg] at h2
            refine iteT ⟨F3, e2, I3, (Fin.bnd (Fin.le s3 h2)).imp fun u e4 F4 H4 I4 s4 h4 w rw_ => ?_⟩
            cases eg' : g' t.d u.d with
            | none => simp only [eg'] at h4; exact h4.elim
            | some z =>
              cases z with
              | frz d =>
                cases d with
                | bl k => simp only [eg'] at h4; exact ok'.bl I4 (ry.mono (s3.trans s4)) rw_ eg' fun F5 H5 I5 s5 => h4 F5 H5 I5 s5 _ (show Rep C.K C.mg F5 _ _ from rBl)
                | _ => simp only [eg'] at h4; exact h4.elim
              | _ => simp only [eg'] at h4; exact h4.elim
        | _ => simp only [eg] at h2; exact h2.elim
      | _ => simp only [eg] at h2; exact h2.elim⟩⟩
theorem qe_chain {op op' : CmpOp} {r r' : R2} {g g' : D → D → Option Sl} (ho : OpR X (compareOp op) r) (ho' : OpR X (compareOp op') r') (ok : OpOk C r g) (ok' : OpOk C r' g') (ha : PE X a (tD C fa)) (hb : PE X b (tD C fb)) (hc : PE X c (tD C fc))
    (hm : lastMarks [op, op'] [b, c] = false := by with_unfolding_all rfl) : PE X (.Compare a [op, op'] [b, c] pos) (tD C (chainD g g' fa fb fc)) := PE.weak (pe_chain ho ho' (qz ha) (qz hb) (qz hc) hm) fun _ _ _ h => t_chain ok ok' h
theorem qt_chain {op op' : CmpOp} {r r' : R2} {g g' : D → D → Option Sl} (ho : OpR X (compareOp op) r) (ho' : OpR X (compareOp op') r') (ok : OpOk C r g) (ok' : OpOk C r' g') (ha : PE X a (tD C fa)) (hb : PE X b (tD C fb)) (hc : PE X c (tD C fc))
    (hm : lastMarks [op, op'] [b, c] = false := by with_unfolding_all rfl) : PT X (.Compare a [op, op'] [b, c] pos) (tDT C (boolT (chainD g g' fa fb fc))) := PT.weak (pt_chain ho ho' (qz ha) (qz hb) (qz hc) hm) fun _ _ _ h => t_chain ok ok' (tz_t (t_bool h))
/-- isinstance(x, (T, ..)) -/
def isTD (ts : List String) (fa : DE) : DE := fun env => (fa env).bind fun p => match isiAny p.1.d ts with
  | some b => .ok (.frz (.bl b), p.2)
  | none => .no
theorem kit_any {K : PySem.W.Frag} {mg : Str → Option Value} {H : Hp} {d : D} {v : V} (r : Rep K mg H d v) : ∀ {ts : List String} {b : Bool}, ts ≠ [] → isiAny d ts = some b → ∃ u, TyX K H v u ∧ PySem.W.kitAny K u (ts.map Value.type) = some b
  | t :: ts, b, _, h => by
    unfold isiAny at h
    cases e : isiB d t with
    | none => rw [e] at h; cases h
    | some q =>
      rw [e] at h
      unfold isiB at e
      cases et : tyN d with
      | none => rw [et] at e; cases e
      | some a =>
        rw [et] at e
        refine ⟨.type a, rep_ty r et, ?_⟩
        have base : ∀ {ts : List String} {b : Bool}, isiAny d ts = some b → PySem.W.kitAny K (.type a) (ts.map Value.type) = some b := by
          intro ts
          induction ts with
          | nil => intro b hb; unfold isiAny at hb; cases hb; rfl
          | cons t ts ih =>
            intro b hb
            unfold isiAny at hb
            cases e : isiB d t with
            | none => rw [e] at hb; cases hb
            | some q =>
              rw [e] at hb
              unfold isiB at e
              rw [et] at e
              cases q with
              | true => cases hb; exact kitAny_cons (kit_ty e) (fun z => nomatch z) (fun _ => rfl)
              | false => exact kitAny_cons (kit_ty e) (fun _ => ih hb) (fun z => nomatch z)
        cases q with
        | true => cases h; exact kitAny_cons (kit_ty e) (fun z => nomatch z) (fun _ => rfl)
        | false => exact kitAny_cons (kit_ty e) (fun _ => base h) (fun z => nomatch z)
/-- a written list of types -/
inductive TysP (X : Cx) : List Expr → List String → TA → Prop where
  | nil : TysP X [] [] tNil
  | cons {e : Expr} {es : List Expr} {t : String} {ts : List String} {ta : TA} : PE X e (tC (.ty t)) → TysP X es ts ta → TysP X (e :: es) (t :: ts) (tCons (tC (.ty t)) ta)
theorem TysP.ta {es : List Expr} {ts : List String} {ta : TA} (h : TysP X es ts ta) : ∀ σ H Q, Q (ts.map V.ty) H → ta σ H Q := by
  induction h with
  | nil => exact fun σ H Q q => q
  | cons _ _ ih => exact fun σ H Q q => ih σ H _ q
theorem clsTys : ∀ ts : List String, Paired ClsV (ts.map V.ty) (ts.map Value.type)
  | [] => .nil
  | t :: ts => .cons (.ty t) (clsTys ts)
theorem qe_isT {es : List Expr} {ts : List String} {ta : TA} {p tp : Pos} {k : Nat} (ft : Fit X C) (hn : ts ≠ []) (hl : ts.length ≤ sizeLine) (ht : TysP X es ts ta) (hes : PA X es ta) (hg : Gl X "isinstance") (hm : X.mg "isinstance" = none) (ha : PE X a (tD C fa))
    (hx1 : starEach [a, .Tuple es k tp] X.env = (false, eval a X.env) :: starEach [.Tuple es k tp] X.env := by rfl) (hx2 : starEach [.Tuple es k tp] X.env = (false, eval (.Tuple es k tp) X.env) :: starEach [] X.env := by rfl) (hpl : (backTo pos (starEach [.Tuple es k tp] X.env)).any (·.1) = false := by rfl) :
    PE X (.Call (.Name "isinstance" p) [a, .Tuple es k tp] [] pos) (tD C (isTD ts fa)) := by
  have q := pe_callB (X := X) (x := "isinstance") (p := p) (pos := pos) call_isiT hg hm (by decide +kernel) (pa_cons (qz ha) (pa_cons (pe_tup (x1 := k) (pos := tp) hes) pa_nil hx2) hx1) (by decide) (by decide) hx1 hpl
  rw [ft.k] at q
  refine PE.weak q fun σ H Q ⟨F, env, I, h⟩ => ⟨F, env, I, (Fin.bnd h).imp fun s e F1 H1 I1 s1 h1 x rx => ht.ta σ H1 _ ⟨by rw [List.length_map]; exact hl, fun tp ntp => ?_⟩⟩
  cases eg : isiAny s.d ts with
  | none => simp only [eg] at h1; exact h1.elim
  | some b =>
    simp only [eg] at h1
    have sF := I1.same (o := .tup (ts.map V.ty)) ntp
    have I2 := I1.alloc (o := .tup (ts.map V.ty)) ntp
    obtain ⟨u, h2, h3⟩ := kit_any ((rx.mono sF).mono I2.fh) hn eg
    exact ⟨x, tp, _, u, ts.map Value.type, b, rfl, upd_same, clsTys ts, h2, h3, h1 _ _ I2 sF _ (show Rep C.K C.mg _ _ _ from rBl)⟩
end
end Dd

namespace Dd
open PySem PySem.Spec PyProof.Rows L2
/-! ### calls by keywords -/
structure HasK (K : PySem.W.Frag) (mg : Str → Option Value) (x : Str) (st : Stmt) (kws : List (Str × V)) : Prop where
  ex : ∃ f fd, FunD K x x (defArgs st) (defBody st) (defScope st) [] kws f fd ∧ mg x = some (.ref f)
structure OkK (P : Program) (w : World) (K : PySem.W.Frag) (mg : Str → Option Value) (base : Heap) (C : CXT) (x : Str) (st : Stmt) (kws : List (Str × V)) (k : Nat) (ps : List Str) (sp : Sp) : Prop where
  ex : ∃ f fd, FunD K x x (defArgs st) (defBody st) (defScope st) [] kws f fd ∧ FnOk P w K mg base C k f fd ps sp ∧ mg x = some (.ref f)
theorem funD {K : PySem.W.Frag} {x : Str} {st : Stmt} {f : Addr} {fd : FuncData} (F : Fun K x x st f fd) : FunD K x x (defArgs st) (defBody st) (defScope st) [] [] f fd := by
  obtain ⟨oc, od, kV, doc, pm, an, cdv, ct, osl, e, lk, hcd⟩ := F.ex
  exact ⟨⟨oc, od, .none, kV, doc, pm, an, cdv, ct, osl, e, lk, hcd, .inl ⟨rfl, rfl⟩, .inl rfl⟩, F.kp⟩
theorem Ok.toK {P : Program} {w : World} {K : PySem.W.Frag} {mg : Str → Option Value} {base : Heap} {C : CXT} {x : Str} {st : Stmt} {k : Nat} {ps : List Str} {sp : Sp} (O : Ok P w K mg base C x st k ps sp) : OkK P w K mg base C x st [] k ps sp := by
  obtain ⟨f, fd, F, G, m, _⟩ := O
  exact ⟨f, fd, funD F, G, m⟩
/-- where a parameter's value comes from: by place, by name, a default -/
inductive Src where
  | a (i : Nat)
  | b (i : Nat)
  | c (i : Nat)
def Src.get {α : Type} (as bs cs : List α) : Src → Option α
  | .a i => as[i]?
  | .b i => bs[i]?
  | .c i => cs[i]?
def pick (sel : List Src) {α : Type} (as bs cs : List α) : List α := sel.filterMap (Src.get as bs cs)
def Src.rng (n m k : Nat) : Src → Bool
  | .a i => decide (i < n)
  | .b i => decide (i < m)
  | .c i => decide (i < k)
theorem paired_get {α β : Type} {r : α → β → Prop} {as : List α} {bs : List β} (h : Paired r as bs) : ∀ i : Nat, (as[i]? = none ∧ bs[i]? = none) ∨ ∃ a b, as[i]? = some a ∧ bs[i]? = some b ∧ r a b := by
  induction h with
  | nil => exact fun i => .inl ⟨by simp, by simp⟩
  | cons h _ ih =>
    intro i
    cases i with
    | zero => exact .inr ⟨_, _, rfl, rfl, h⟩
    | succ i => simpa using ih i
theorem pick_rel {α β : Type} {r : α → β → Prop} {as bs cs : List α} {as' bs' cs' : List β} (h1 : Paired r as as') (h2 : Paired r bs bs') (h3 : Paired r cs cs') : ∀ sel : List Src, Paired r (pick sel as bs cs) (pick sel as' bs' cs')
  | [] => .nil
  | s :: sel => by
    have ih := pick_rel h1 h2 h3 sel
    unfold pick at ih ⊢
    rw [List.filterMap_cons, List.filterMap_cons]
    have q : (Src.get as bs cs s = none ∧ Src.get as' bs' cs' s = none) ∨ ∃ a b, Src.get as bs cs s = some a ∧ Src.get as' bs' cs' s = some b ∧ r a b := by
      cases s with
      | a i => exact paired_get h1 i
      | b i => exact paired_get h2 i
      | c i => exact paired_get h3 i
    rcases q with ⟨e1, e2⟩ | ⟨a, b, e1, e2, hr⟩
    · rw [e1, e2]; exact ih
    · rw [e1, e2]; exact .cons hr ih
theorem pick_len {α : Type} {as bs cs : List α} {n m k : Nat} (h1 : as.length = n) (h2 : bs.length = m) (h3 : cs.length = k) : ∀ {sel : List Src}, sel.all (Src.rng n m k) = true → (pick sel as bs cs).length = sel.length
  | [], _ => rfl
  | s :: sel, h => by
    rw [List.all_cons, Bool.and_eq_true] at h
    have ih := pick_len h1 h2 h3 h.2
    unfold pick at ih ⊢
    have q : ∃ a, Src.get as bs cs s = some a := by
      cases s with
      | a i => exact ⟨_, List.getElem?_eq_getElem (by rw [h1]; exact of_decide_eq_true h.1)⟩
      | b i => exact ⟨_, List.getElem?_eq_getElem (by rw [h2]; exact of_decide_eq_true h.1)⟩
      | c i => exact ⟨_, List.getElem?_eq_getElem (by rw [h3]; exact of_decide_eq_true h.1)⟩
    obtain ⟨a, e⟩ := q
    rw [List.filterMap_cons, e]
    simp [ih]
/-- how a call binds: n by place, ks by name, ms lacking -/
structure Shape (x : Str) (st : Stmt) (kws : List (Str × V)) (ps : List Str) (n : Nat) (ks : List Str) (ms : List (Str × V)) (sel : List Src) : Prop where
  sub : ∀ q ∈ ms, q ∈ kws
  rng : sel.all (Src.rng n ks.length ms.length) = true
  len : sel.length = ps.length
  to : ∀ (kV doc pm : Value) (an : Option Addr) (cdv ct : Value) (us ws ds : List Value), us.length = n → ws.length = ks.length → ds.length = ms.length → (∀ D, ms ≠ [] → kV = .ref D → KwChain D ((ms.map (·.1)).zip ds) (bindArgs (PySem.W.fnOf x x (defArgs st) (defBody st) (defScope st) .none (.ref D) doc pm an cdv ct) ⟨us, ks.zip ws⟩) (ps.zip (pick sel us ws ds))) ∧
    (ms = [] → bindArgs (PySem.W.fnOf x x (defArgs st) (defBody st) (defScope st) .none kV doc pm an cdv ct) ⟨us, ks.zip ws⟩ = pure (ps.zip (pick sel us ws ds)))
theorem paired_len {α β : Type} {r : α → β → Prop} {as : List α} {bs : List β} (h : Paired r as bs) : as.length = bs.length := by
  induction h with
  | nil => rfl
  | cons _ _ ih => simp [ih]
theorem Shape.kbn {K : PySem.W.Frag} {x : Str} {st : Stmt} {kws : List (Str × V)} {ps : List Str} {n : Nat} {ks : List Str} {ms : List (Str × V)} {sel : List Src} {f : Addr} {fd : FuncData} (S : Shape x st kws ps n ks ms sel) (F : FunD K x x (defArgs st) (defBody st) (defScope st) [] kws f fd) :
    ∃ ds : List Value, ds.length = ms.length ∧ Vals (ms.map (·.2)) ds ∧ ∀ (s : Shared) (us ws : List Value), K.In s.heap → us.length = n → ws.length = ks.length → BindsTo s fd ⟨us, ks.zip ws⟩ (ps.zip (pick sel us ws ds)) := by
  obtain ⟨oc, od, dV, kV, doc, pm, an, cdv, ct, osl, rfl, lk, hcd, hD, hK⟩ := F.ex
  rcases hD with ⟨_, rfl⟩ | ⟨e, _⟩
  · by_cases hm : ms = []
    · subst hm
      refine ⟨[], rfl, .nil, fun s us ws X h1 h2 => .of_eq ((S.to kV doc pm an cdv ct us ws [] h1 h2 rfl).2 rfl)⟩
    · rcases hK with e | ⟨D, rfl, hq⟩
      · subst e
        cases ms with
        | nil => exact absurd rfl hm
        | cons q r => exact absurd (S.sub q (by simp)) (by simp)
      · obtain ⟨ds, hl, rk, hks⟩ := kwd_vals (fun q h => hq q (S.sub q h))
        exact ⟨ds, hl, rk, fun s us ws X h1 h2 => BindsTo.of_looks fun M => KwChain.looks X hks ((S.to _ doc pm an cdv ct us ws ds h1 h2 hl).1 D hm rfl)⟩
  · exact absurd rfl e
/-- f(e, .., k = v, ..); dfs: the lacking ones' data -/
def callKD (g : DF) (sel : List Src) (dfs : List D) (fs kfs : List DE) : DE := fun env => (argsD fs env).bind fun p => (argsD kfs p.2).bind fun q => match g (pick sel p.1 q.1 dfs) with
  | .ok r => .ok (r.1, q.2)
  | .er c x _ => .er c x q.2
  | .no => .no
theorem repL_paired {K : PySem.W.Frag} {mg : Str → Option Value} {H : Hp} : ∀ {ds : List D} {vs : List V}, RepL K mg H ds vs → Paired (fun d v => Rep K mg H d v) ds vs
  | [], vs, h => by rw [h.nil]; exact .nil
  | d :: ds, vs, h => by
    obtain ⟨x, r, rfl, h1, h2⟩ := h.cons
    exact .cons h1 (repL_paired h2)
theorem paired_repL {K : PySem.W.Frag} {mg : Str → Option Value} {H : Hp} : ∀ {ds : List D} {vs : List V}, Paired (fun d v => Rep K mg H d v) ds vs → RepL K mg H ds vs
  | _, _, .nil => repNil
  | _, _, .cons h1 h2 => repCons h1 (paired_repL h2)
section
variable {X : Cx} {C : Cd} {x : Str} {st : Stmt} {ps ks : List Str} {k n : Nat} {e : Expr} {es : List Expr} {kws : List Keyword} {p pos : Pos} {g : DF} {fs kfs : List DE} {dws ms : List (Str × V)} {sel : List Src} {dfs : List D}
theorem t_callK {σ : L2.St} {H : Hp} {Q : VK} {sp : Sp} {E : XK} (S : Shape x st dws ps n ks ms sel) (hn : fs.length = n) (hk : kfs.length = ks.length) (hdf : ∀ F, RepL C.K C.mg F dfs (ms.map (·.2)))
    (hsp : ∀ F H env (vs : List V) ds, In C F H σ env → RepL C.K C.mg F ds vs → vs.length = ps.length → (match g ds with
      | .ok p => ∀ v F' H', Ext F H F' H' → ResO C.K C.mg F' H' H p.1 v → Q v H'
      | .er c fs _ => C.rz = true ∧ ∀ x F' H', Ext F H F' H' → ErO C.K C.mg F' fs x → C.W (.ref (clsA C.mg c)) x σ H'
      | .no => False) → sp vs H Q E) : tD C (callKD g sel dfs fs kfs) σ H Q → tDA C fs σ H fun vs H1 => tDA C kfs σ H1 fun zs H2 => vs.length = n ∧ zs.length = ks.length ∧ sp (pick sel vs zs (ms.map (·.2))) H2 Q E := fun ⟨F, env, I, h⟩ => ⟨F, env, I, by
  unfold callKD at h
  cases ea : argsD fs env with
  | no => rw [ea] at h; exact h
  | er c fs z => rw [ea] at h; exact h
  | ok p =>
    rw [ea] at h
    intro F1 H1 I1 s1 vs rv
    simp only [R.bind_ok] at h
    refine ⟨F1, p.2, I1, ?_⟩
    cases eb : argsD kfs p.2 with
    | no => rw [eb] at h; exact h.elim
    | er c fs z => rw [eb] at h; exact Fin.le s1 h
    | ok q =>
      rw [eb] at h
      intro F2 H2 I2 s2 zs rz
      have l1 : vs.length = n := by rw [rv.len, argsD_len ea]; exact hn
      have l2 : zs.length = ks.length := by rw [rz.len, argsD_len eb]; exact hk
      refine ⟨l1, l2, hsp F2 H2 q.2 _ (pick sel p.1 q.1 dfs) I2 (paired_repL (pick_rel (repL_paired (rv.mono s2)) (repL_paired rz) (repL_paired (hdf F2)) sel)) ((pick_len l1 l2 (by rw [List.length_map]) S.rng).trans S.len) ?_⟩
      simp only [R.bind_ok] at h
      cases eg : g (pick sel p.1 q.1 dfs) with
      | no => simp only [eg] at h; exact h.elim
      | er c fs z => simp only [eg] at h; exact ⟨h.1, fun x F' H' xt er => h.2 x F' H' (I2.call xt) ((s1.trans s2).trans xt.ff) er⟩
      | ok r =>
        simp only [eg] at h
        exact fun v F' H' xt rr => h F' H' (I2.call xt) ((s1.trans s2).trans xt.ff) v (I2.resO rr)⟩
theorem kbnS {K : PySem.W.Frag} {f : Addr} {fd : FuncData} (S : Shape x st dws ps n ks ms sel) (F : FunD K x x (defArgs st) (defBody st) (defScope st) [] dws f fd) : ∃ ds : List Value, KBn K fd ps n ks (fun us ws => pick sel us ws ds) (fun vs zs => pick sel vs zs (ms.map (·.2))) := by
  obtain ⟨ds, hl, rd, hb⟩ := S.kbn F
  exact ⟨ds, hb, fun r1 r2 => pick_rel r1 r2 rd sel⟩
theorem hsp0 {σ : L2.St} {Q : VK} {E : XK} (hz : C.rz = false) : ∀ F H env (vs : List V) ds, In C F H σ env → RepL C.K C.mg F ds vs → vs.length = ps.length → (match g ds with
      | .ok p => ∀ v F' H', Ext F H F' H' → ResO C.K C.mg F' H' H p.1 v → Q v H'
      | .er c fs _ => C.rz = true ∧ ∀ x F' H', Ext F H F' H' → ErO C.K C.mg F' fs x → C.W (.ref (clsA C.mg c)) x σ H'
      | .no => False) → sp0 C.K C.mg ps.length g vs H Q E := fun F H env vs ds I r hl h => by
  refine ⟨hl, F, ds, I.fh, r, ?_⟩
  cases e : g ds with
  | ok p => simp only [e] at h; exact h
  | er c fs z => simp only [e] at h; have h1 := h.1; rw [hz] at h1; cases h1
  | no => simp only [e] at h
theorem hspX {σ : L2.St} {Q : VK} : ∀ F H env (vs : List V) ds, In C F H σ env → RepL C.K C.mg F ds vs → vs.length = ps.length → (match g ds with
      | .ok p => ∀ v F' H', Ext F H F' H' → ResO C.K C.mg F' H' H p.1 v → Q v H'
      | .er c fs _ => C.rz = true ∧ ∀ x F' H', Ext F H F' H' → ErO C.K C.mg F' fs x → C.W (.ref (clsA C.mg c)) x σ H'
      | .no => False) → spP C.K C.mg ps.length g vs H Q (WE C.W σ) := fun F H env vs ds I r hl h => by
  refine ⟨hl, F, ds, I.fh, r, ?_⟩
  cases e : g ds with
  | ok p => simp only [e] at h; exact h
  | er c fs z => simp only [e] at h; exact h.2
  | no => simp only [e] at h
/-- a call by places and names, nothing raised -/
theorem qe_callK (ft : Fit X C) (hz : C.rz = false) (O : OkK X.prog X.w X.K X.mg X.base CX0 x st dws k ps (sp0 X.K X.mg ps.length g)) (S : Shape x st dws ps n ks ms sel) (hr : Room k X.A) (hg : Gl X x) (ha : PA X (e :: es) (tDA C fs)) (hkw : PK X kws (tDA C kfs)) (hdf : ∀ F, RepL X.K X.mg F dfs (ms.map (·.2))) (hn : fs.length = n := by rfl) (hk : kfs.length = ks.length := by rfl)
    (hall : (backToKw pos (keywordEach kws X.env)).all (·.1.isSome) = true := by rfl) (hks : (backToKw pos (keywordEach kws X.env)).filterMap (·.1) = ks := by rfl)
    (hdb : (x == ("__debug__" : Str)) = false := by decide) (he : starEach (e :: es) X.env = (false, eval e X.env) :: starEach es X.env := by rfl)
    (hpl : ((backTo pos (starEach (e :: es) X.env)).any (·.1) || (backToKw pos (keywordEach kws X.env)).any (·.1.isNone)) = false := by rfl) : PE X (.Call (.Name x p) (e :: es) kws pos) (tD C (callKD g sel dfs fs kfs)) := by
  rw [ft.k, ft.m] at hdf
  obtain ⟨f, fd, F, G, m⟩ := O
  obtain ⟨ds, kb⟩ := kbnS S F
  refine PE.weak (pe_callN G hr hg m F.kp kb pass0 ha hkw hall hks hdb he hpl) fun σ H Q h => ?_
  have q := t_callK (E := E0) S hn hk hdf (hsp0 hz) h
  rw [← ft.k, ← ft.m] at q
  exact q
/-- f(k = v, ..) -/
theorem qe_callK0 (ft : Fit X C) (hz : C.rz = false) (O : OkK X.prog X.w X.K X.mg X.base CX0 x st dws k ps (sp0 X.K X.mg ps.length g)) (S : Shape x st dws ps 0 ks ms sel) (hr : Room k X.A) (hg : Gl X x) (hkw : PK X kws (tDA C kfs)) (hdf : ∀ F, RepL X.K X.mg F dfs (ms.map (·.2))) (hk : kfs.length = ks.length := by rfl)
    (hall : (backToKw pos (keywordEach kws X.env)).all (·.1.isSome) = true := by rfl) (hks : (backToKw pos (keywordEach kws X.env)).filterMap (·.1) = ks := by rfl) (hdb : (x == ("__debug__" : Str)) = false := by decide)
    (hpl : ((backTo pos (starEach [] X.env)).any (·.1) || (backToKw pos (keywordEach kws X.env)).any (·.1.isNone)) = false := by rfl) : PE X (.Call (.Name x p) [] kws pos) (tD C (callKD g sel dfs [] kfs)) := by
  rw [ft.k, ft.m] at hdf
  obtain ⟨f, fd, F, G, m⟩ := O
  obtain ⟨ds, kb⟩ := kbnS S F
  refine ⟨fun pins s σ H Q I h0 => ?_⟩
  have q := t_callK (E := E0) S (fs := []) rfl hk hdf (hsp0 hz) h0
  rw [← ft.k, ← ft.m] at q
  have q := ta_nil q
  refine wpAny_Call_Name_kw (ld_glob I hg m ?_ hdb)
  refine PySem.W.callWith_KW0 (h₀ := X.base) I.ok.mod.kin F.kp hall ?_ hpl
  refine thn (hkw.run pos pins s σ H _ I q) fun ws s2 ⟨zs, H2, I2, rz, l1, l2, q2⟩ => ⟨I2.kIn, ?_⟩
  rw [hks]
  exact run_fnN (us := []) (vs := []) G hr kb pass0 I2 .nil rz rfl l2 q2
/-- the same where what is raised is taken -/
theorem run_fnNS {CX : CXT} {sp : Sp} {W : WX} {f : Addr} {fd : FuncData} {gg : List Value → List Value → List Value} {gV : List V → List V → List V} {pins : List (Addr × Obj)} {σ : L2.St} {H : Hp} {s : Shared} {Q : VK} {us ws : List Value} {vs zs : List V} (F : FnOk X.prog X.w X.K X.mg X.base CX k f fd ps sp) (hr : Room k X.A) (hb : KBn X.K fd ps n ks gg gV) (hx : PassesAt CX X σ (WE W σ))
    (I : Inv X pins σ H s) (r : Vals vs us) (rz : Vals zs ws) (l1 : vs.length = n) (l2 : zs.length = ks.length) (h : sp (gV vs zs) H Q (WE W σ)) : wpAny (model X.prog X.w) X.A (call (.ref f) us (ks.zip ws)) (EP X pins σ Q) X.xe s := by
  have r2 := hb.rel r rz
  refine wpAny_call (codeAny_mono (F.run X.A X.stack s H ⟨us, ks.zip ws⟩ (gg us ws) (gV vs zs) Q (WE W σ) hr I.env0 (hb.to s us ws I.kIn (r.length.symm.trans l1) (rz.length.symm.trans l2)) r2 h) fun r s' hq => ?_)
  cases r with
  | error e => exact hx pins H s e s' I hq
  | ok fl =>
    cases fl with
    | ret u => exact I.after hq
    | next => exact False.elim hq
    | brk => exact False.elim hq
    | cont => exact False.elim hq
theorem qe_callKX (ft : Fit X C) (tk : Takes X C.W) (O : OkK X.prog X.w X.K X.mg X.base (L2.CX X.prog X.w) x st dws k ps (spP X.K X.mg ps.length g)) (S : Shape x st dws ps n ks ms sel) (hr : Room k X.A) (hg : Gl X x) (ha : PA X (e :: es) (tDA C fs)) (hkw : PK X kws (tDA C kfs)) (hdf : ∀ F, RepL X.K X.mg F dfs (ms.map (·.2))) (hn : fs.length = n := by rfl) (hk : kfs.length = ks.length := by rfl)
    (hall : (backToKw pos (keywordEach kws X.env)).all (·.1.isSome) = true := by rfl) (hks : (backToKw pos (keywordEach kws X.env)).filterMap (·.1) = ks := by rfl)
    (hdb : (x == ("__debug__" : Str)) = false := by decide) (he : starEach (e :: es) X.env = (false, eval e X.env) :: starEach es X.env := by rfl)
    (hpl : ((backTo pos (starEach (e :: es) X.env)).any (·.1) || (backToKw pos (keywordEach kws X.env)).any (·.1.isNone)) = false := by rfl) : PE X (.Call (.Name x p) (e :: es) kws pos) (tD C (callKD g sel dfs fs kfs)) := by
  rw [ft.k, ft.m] at hdf
  obtain ⟨f, fd, F, G, m⟩ := O
  obtain ⟨ds, kb⟩ := kbnS S F
  refine ⟨fun pins s σ H Q I h0 => ?_⟩
  have q := t_callK S hn hk hdf hspX h0
  rw [← ft.k, ← ft.m] at q
  refine wpAny_Call_Name_kw (ld_glob I hg m ?_ hdb)
  refine PySem.W.callWith_KW (h₀ := X.base) I.ok.mod.kin F.kp hall (thn (ha.run pos pins s σ H _ I q) fun us s1 ⟨vs, H1, I1, r, q⟩ => ?_) hpl he
  refine thn (hkw.run pos pins s1 σ H1 _ I1 q) fun ws s2 ⟨zs, H2, I2, rz, l1, l2, q2⟩ => ⟨I2.kIn, ?_⟩
  rw [hks]
  exact run_fnNS G hr kb (passAt tk σ) I2 r rz l1 l2 q2
theorem qe_callKX0 (ft : Fit X C) (tk : Takes X C.W) (O : OkK X.prog X.w X.K X.mg X.base (L2.CX X.prog X.w) x st dws k ps (spP X.K X.mg ps.length g)) (S : Shape x st dws ps 0 ks ms sel) (hr : Room k X.A) (hg : Gl X x) (hkw : PK X kws (tDA C kfs)) (hdf : ∀ F, RepL X.K X.mg F dfs (ms.map (·.2))) (hk : kfs.length = ks.length := by rfl)
    (hall : (backToKw pos (keywordEach kws X.env)).all (·.1.isSome) = true := by rfl) (hks : (backToKw pos (keywordEach kws X.env)).filterMap (·.1) = ks := by rfl) (hdb : (x == ("__debug__" : Str)) = false := by decide)
    (hpl : ((backTo pos (starEach [] X.env)).any (·.1) || (backToKw pos (keywordEach kws X.env)).any (·.1.isNone)) = false := by rfl) : PE X (.Call (.Name x p) [] kws pos) (tD C (callKD g sel dfs [] kfs)) := by
  rw [ft.k, ft.m] at hdf
  obtain ⟨f, fd, F, G, m⟩ := O
  obtain ⟨ds, kb⟩ := kbnS S F
  refine ⟨fun pins s σ H Q I h0 => ?_⟩
  have q := t_callK S (fs := []) rfl hk hdf hspX h0
  rw [← ft.k, ← ft.m] at q
  have q := ta_nil q
  refine wpAny_Call_Name_kw (ld_glob I hg m ?_ hdb)
  refine PySem.W.callWith_KW0 (h₀ := X.base) I.ok.mod.kin F.kp hall ?_ hpl
  refine thn (hkw.run pos pins s σ H _ I q) fun ws s2 ⟨zs, H2, I2, rz, l1, l2, q2⟩ => ⟨I2.kIn, ?_⟩
  rw [hks]
  exact run_fnNS (us := []) (vs := []) G hr kb (passAt tk σ) I2 .nil rz rfl l2 q2
end
section
variable {P : Program} {w : World} {K : PySem.W.Frag} {mg : Str → Option Value} {base : Heap} {x : Str} {st : Stmt} {ps N : List Str} {k : Nat} {g : DS} {kws : List (Str × V)}
theorem spBody0 {H : Hp} {vs : List V} {Q : VK} {E : XK} (h : sp0 K mg ps.length (bodyF N.length g) vs H Q E) : ∃ F, ∀ {X : Cx} {ss : List Stmt}, PSs X ss (tDS ⟨K, mg, F, H, fun _ => False, W0, 0, "", false⟩ g) → ∃ t, PSs X ss t ∧ t { nx := fun _ H' => Q .non H', rt := Q } (L2.start N vs) H := by
  obtain ⟨hl, Fz, ds, sm, r, h⟩ := h
  refine ⟨Fz, fun {X ss} hp => ⟨_, hp, Fz, _, In.start sm r, ?_⟩⟩
  unfold bodyF at h
  cases e : g (env0 N.length ds) with
  | no => rw [e] at h; exact h
  | er c fs z => rw [e] at h; exact h.elim
  | ok o =>
    rw [e] at h
    cases o with
    | nx z => exact fun σ F' H' I s => h _ F' H' (I.ext (N := N)) (show Rep K mg F' .non .non from rNon)
    | rt s z => exact fun v σ F' H' I _ r => h _ F' H' (I.ext (N := N)) r.out
    | bk z => exact h.elim
    | ct z => exact h.elim
theorem spBodyX {H : Hp} {vs : List V} {Q : VK} {E : XK} (h : spP K mg ps.length (bodyF N.length g) vs H Q E) : ∃ F, ∀ {X : Cx} {ss : List Stmt}, PSs X ss (tDS ⟨K, mg, F, H, fun _ => False, WD E, 0, "", true⟩ g) → ∃ t, PSs X ss t ∧ t { nx := fun _ H' => Q .non H', rt := Q } (L2.start N vs) H := by
  obtain ⟨hl, Fz, ds, sm, r, h⟩ := h
  refine ⟨Fz, fun {X ss} hp => ⟨_, hp, Fz, _, In.start sm r, ?_⟩⟩
  unfold bodyF at h
  cases e : g (env0 N.length ds) with
  | no => rw [e] at h; exact h
  | er c fs z => rw [e] at h; exact ⟨rfl, fun x σ F' H' I s k => h x F' H' (I.ext (N := N)) k⟩
  | ok o =>
    rw [e] at h
    cases o with
    | nx z => exact fun σ F' H' I s => h _ F' H' (I.ext (N := N)) (show Rep K mg F' .non .non from rNon)
    | rt s z => exact fun v σ F' H' I _ r => h _ F' H' (I.ext (N := N)) r.out
    | bk z => exact h.elim
    | ct z => exact h.elim
theorem HasK.okD (D : HasK K mg x st kws) (S : FnScope N ps (defScope st))
    (hb : ∀ (f : Addr) (cdv : Value) (A : Around) (outer : List Env) (s : Shared) (H : Hp) (E : XK) (F : Hp), Room k (A.deeper (envOfC x (defScope st) s.heap.objs.size f cdv)) → Fit (cxOf CX0 P w K mg base N x (defScope st) f cdv A outer s H E).nox ⟨K, mg, F, H, fun _ => False, W0, 0, "", false⟩ →
      PSs (cxOf CX0 P w K mg base N x (defScope st) f cdv A outer s H E).nox (defBody st) (tDS ⟨K, mg, F, H, fun _ => False, W0, 0, "", false⟩ g)) : OkK P w K mg base CX0 x st kws (k + 1) ps (sp0 K mg ps.length (bodyF N.length g)) := by
  obtain ⟨f, fd, F, gl⟩ := D
  refine ⟨f, fd, F, F.ok S (fun vs H Q E h => h.1) (fun cdv A outer s H vs Q E hr h => ?_), gl⟩
  obtain ⟨Fz, q⟩ := spBody0 h
  obtain ⟨t, h1, h2⟩ := q (hb f cdv A outer s H E Fz hr ⟨rfl, rfl⟩)
  exact ⟨t, PSs.nox h1, h2⟩
theorem HasK.okDX (D : HasK K mg x st kws) (S : FnScope N ps (defScope st))
    (hb : ∀ (f : Addr) (cdv : Value) (A : Around) (outer : List Env) (s : Shared) (H : Hp) (E : XK) (F : Hp), Room k (A.deeper (envOfC x (defScope st) s.heap.objs.size f cdv)) → Fit (cxOf (L2.CX P w) P w K mg base N x (defScope st) f cdv A outer s H E) ⟨K, mg, F, H, fun _ => False, WD E, 0, "", true⟩ →
      PSs (cxOf (L2.CX P w) P w K mg base N x (defScope st) f cdv A outer s H E) (defBody st) (tDS ⟨K, mg, F, H, fun _ => False, WD E, 0, "", true⟩ g)) : OkK P w K mg base (L2.CX P w) x st kws (k + 1) ps (spP K mg ps.length (bodyF N.length g)) := by
  obtain ⟨f, fd, F, gl⟩ := D
  refine ⟨f, fd, F, F.ok S (fun vs H Q E h => h.1) (fun cdv A outer s H vs Q E hr h => ?_), gl⟩
  obtain ⟨Fz, q⟩ := spBodyX h
  exact q (hb f cdv A outer s H E Fz hr ⟨rfl, rfl⟩)
end
end Dd

namespace Dd
open PySem PySem.Spec PyProof.Rows L2
/-! ### what the top leaves -/
structure ErrC (K : PySem.W.Frag) (mg : Str → Option Value) (x : Str) : Prop where
  g : mg x = some (.ref (clsA mg x))
  xi : PySem.W.excIn K (clsA mg x) [.type "ValueError", .type "Exception", .type "BaseException", .type "object"] "ValueError.__new__" = true
  k : PySem.W.keepIn K (.ref (clsA mg x)) = true
  b : PySem.W.subIn K (.ref (clsA mg x)) (.type "BaseException") = some true
  t : PySem.W.typeIn K (.ref (clsA mg x)) = some (.type "type")
  e : ExcC K (clsA mg x)
structure Caught (K : PySem.W.Frag) (mg : Str → Option Value) (x y : Str) : Prop where
  g : mg y = some (.ref (clsA mg y))
  m : PySem.W.exmOne K (.ref (clsA mg x)) (.ref (clsA mg y)) = some true
structure KitC (K : PySem.W.Frag) (mg : Str → Option Value) (x y : Str) (b : Bool) : Prop where
  g : mg y = some (.ref (clsA mg y))
  m : PySem.W.kitOne K (.ref (clsA mg x)) (.ref (clsA mg y)) = some b
def dfA (K : PySem.W.Frag) (mg : Str → Option Value) (x n : Str) : Addr := match mg x with
  | some (.ref f) => (match K.lookup f with
    | some ⟨_, _, .func fd, _⟩ => (match fd.kwdefaults with
      | .ref D => (match PySem.W.nsIn K D n with
        | some (some (.ref a)) => a
        | _ => 0)
      | _ => 0)
    | _ => 0)
  | _ => 0
theorem dfA_of {K : PySem.W.Frag} {mg : Str → Option Value} {x n : Str} {f D a : Addr} {oc : Value} {od : Option Addr} {fd : FuncData} {osl : Array (Option Value)} (h1 : mg x = some (.ref f)) (h2 : K.lookup f = some ⟨oc, od, .func fd, osl⟩) (h3 : fd.kwdefaults = .ref D) (h4 : PySem.W.nsIn K D n = some (some (.ref a))) : dfA K mg x n = a := by
  unfold dfA
  simp only [h1, h2, h3, h4]
theorem has_mk {K : PySem.W.Frag} {mg : Str → Option Value} {x : Str} {st : Stmt} {ps : List Str} {f : Addr} {fd : FuncData} (F : Fun K x x st f fd) (g : mg x = some (.ref f))
    (h : ∀ (kV doc pm : Value) (an : Option Addr) (cdv ct : Value) (us : List Value), us.length = ps.length → bindArgs (PySem.W.fnOf x x (defArgs st) (defBody st) (defScope st) .none kV doc pm an cdv ct) ⟨us, []⟩ = pure (ps.zip us)) : Has K mg x st ps :=
  ⟨f, fd, F, g, F.binds h⟩
theorem hask_mk {K : PySem.W.Frag} {mg : Str → Option Value} {x : Str} {st : Stmt} {kws : List (Str × V)} {f : Addr} {oc : Value} {od an : Option Addr} {osl : Array (Option Value)} {kV doc pm cdv ct : Value} (l : K.lookup f = some ⟨oc, od, .func (PySem.W.fnOf x x (defArgs st) (defBody st) (defScope st) .none kV doc pm an cdv ct), osl⟩)
    (c : PySem.W.codeIn K cdv x = true) (k : PySem.W.keepIn K (.ref f) = true) (g : mg x = some (.ref f)) (hk : KwdV K kV kws) : HasK K mg x st kws := ⟨f, _, ⟨⟨oc, od, .none, kV, doc, pm, an, cdv, ct, osl, rfl, l, c, .inl ⟨rfl, rfl⟩, hk⟩, k⟩, g⟩
theorem kwA_nil {K : PySem.W.Frag} {D : Addr} : ∀ q ∈ ([] : List (Str × V)), ∃ u, PySem.W.nsIn K D q.1 = some (some u) ∧ RelV q.2 u := fun q h => by cases h
theorem kwA_cons {K : PySem.W.Frag} {D : Addr} {n : Str} {v : V} {u : Value} {r : List (Str × V)} (h : PySem.W.nsIn K D n = some (some u)) (e : RelV v u) (t : ∀ q ∈ r, ∃ u, PySem.W.nsIn K D q.1 = some (some u) ∧ RelV q.2 u) :
    ∀ q ∈ (n, v) :: r, ∃ u, PySem.W.nsIn K D q.1 = some (some u) ∧ RelV q.2 u := fun q hq => by
  rcases List.mem_cons.mp hq with rfl | hq
  · exact ⟨u, h, e⟩
  · exact t q hq
/-- a tuple of ints of the written part, as data -/
theorem rep_kTup {K : PySem.W.Frag} {mg : Str → Option Value} {F : Hp} {a : Addr} {o : Obj} {its : Array Value} {n : Nat} {ds : List D} {xs : List V} (l : K.lookup a = some o) (c : o.cls = .type "tuple") (hd : o.data = .seq its n) (hz : its.size ≤ sizeLine) (hv : Vals xs its.toList) (r : RepL K mg F ds xs) : Rep K mg F (.tup ds) (.ref a) := by
  unfold Rep
  exact ⟨a, xs, rfl, .inr ⟨o, its, n, l, c, hd, hz, hv⟩, r⟩
section
variable {X : Cx} {C : Cd} {x : Str} {pos : Pos}
theorem qe_cls (ft : Fit X C) (hg : Gl X x) (g : X.mg x = some (.ref (clsA X.mg x))) (hd : (x == ("__debug__" : Str)) = false := by decide) : PE X (.Name x pos) (tD C (conD (.cls x))) :=
  qe_con (v := .ref (clsA X.mg x)) (fun F => by unfold Rep; rw [ft.m]) (pe_glob (v := .ref (clsA X.mg x)) hg g rfl hd)
def gAddI := gInt (fun _ _ => true) fun i j => .int (i + j)
theorem ok_ipAdd : OpOk C (ipI fun i j => i + j) gAddI := ok_int0 fun _ _ _ => rInt
theorem ok_ipSub : OpOk C (ipI fun i j => i - j) gSub := ok_int0 fun _ _ _ => rInt
end
theorem okLaw {P : Program} {w : World} {K : PySem.W.Frag} {mg : Str → Option Value} {base : Heap} {x : Str} {st : Stmt} {ps N : List Str} {k : Nat} {g : DS} {f : Addr} {fd : FuncData} (D : Fun K x x st f fd) (S : FnScope N ps (defScope st))
    (hb : ∀ (cdv : Value) (A : Around) (outer : List Env) (s : Shared) (H : Hp) (E : XK) (F : Hp), Room k (A.deeper (envOfC x (defScope st) s.heap.objs.size f cdv)) → Fit (cxOf CX0 P w K mg base N x (defScope st) f cdv A outer s H E).nox ⟨K, mg, F, H, fun _ => False, W0, 0, "", false⟩ →
      PSs (cxOf CX0 P w K mg base N x (defScope st) f cdv A outer s H E).nox (defBody st) (tDS ⟨K, mg, F, H, fun _ => False, W0, 0, "", false⟩ g)) : FnOk P w K mg base CX0 (k + 1) f fd ps (sp0 K mg ps.length (bodyF N.length g)) := by
  refine D.ok S (fun vs H Q E h => h.1) (fun cdv A outer s H vs Q E hr h => ?_)
  obtain ⟨Fz, q⟩ := spBody0 h
  exact q (hb cdv A outer s H E Fz hr ⟨rfl, rfl⟩)
/-- g of what a name has now -/
def peekC (g : List D → Option Sl) (i : Nat) : DE := fun env => match env[i]? with
  | some (some s) => (match s.val with
    | some d => (match g [d] with
      | some z => .ok (z, env)
      | none => .no)
    | none => .no)
  | _ => .no
def CaOkH (C : Cd) (r : List V → Hp → VK → Prop) (g : List D → Option Sl) : Prop := ∀ F H σ env v d s (Q : VK), In C F H σ env → Rep C.K C.mg H d v → g [d] = some s →
  (∀ v F' H', In C F' H' σ env → Same F F' → Res C F' H' env σ s v → Q v H') → r [v] H Q
section
variable {X : Cx} {C : Cd}
theorem ok_lenH : CaOkH C (fun xs H Q => ∃ x n, xs = [x] ∧ LenV C.K x H n ∧ Q (.int n) H) gLen := by
  intro F H σ env v d s Q I rx hg k
  unfold gLen at hg
  split at hg
  · rename_i e
    cases e
    cases hg
    obtain ⟨p, xs, rfl, h1, h2⟩ := rx.lst
    exact ⟨_, _, rfl, .inl ⟨xs, .inl (.inl h1), rfl⟩, by rw [h2.len]; exact k _ F H I (.refl _) resInt⟩
  · rename_i e
    cases e
    cases hg
    obtain ⟨p, xs, rfl, h1, h2⟩ := rx.tup
    exact ⟨_, _, rfl, .inr ⟨xs, h1, rfl⟩, by rw [h2.len]; exact k _ F H I (.refl _) resInt⟩
  · rename_i ns e
    cases e
    cases hg
    obtain ⟨p, rfl, h1⟩ := rx.scr
    exact ⟨_, _, rfl, .inl ⟨_, h1, rfl⟩, by rw [List.length_map]; exact k _ F H I (.refl _) resInt⟩
  · rename_i e
    cases e
    split at hg
    · rename_i hz
      cases hg
      rw [rx.str]
      exact ⟨_, _, rfl, ⟨lim_le hz, rfl⟩, k _ F H I (.refl _) resInt⟩
    · cases hg
  · cases hg
theorem qe_peekB {e : Expr} {x : Str} {id : String} {p pos : Pos} {i : Nat} {r : List V → Hp → VK → Prop} {g : List D → Option Sl} (hc : CallR X (.builtin id) r) (ok : CaOkH C r g) (hg : Gl X x) (hm : X.mg x = none) (hv : bootBuiltins x = some (.builtin id)) (ha : PE X e (tVar i)) (hn : x ≠ "__name__" := by decide) (hdb : (x == ("__debug__" : Str)) = false := by decide)
    (hx : starEach [e] X.env = (false, eval e X.env) :: starEach [] X.env := by rfl) (he : starEach [e] X.env = (false, eval e X.env) :: starEach [] X.env := by rfl) (hpl : (backTo pos (starEach [] X.env)).any (·.1) = false := by rfl) : PE X (.Call (.Name x p) [e] [] pos) (tD C (peekC g i)) :=
  PE.weak (pe_callB hc hg hm hv (pa_cons ha pa_nil hx) hn hdb he hpl) fun σ H Q ⟨F, env, I, h⟩ => by
    unfold peekC at h
    cases ei : env[i]? with
    | none => rw [ei] at h; exact h.elim
    | some z =>
      cases z with
      | none => rw [ei] at h; exact h.elim
      | some s =>
        rw [ei] at h
        simp only at h
        cases ev : s.val with
        | none => simp only [ev] at h; exact h.elim
        | some d =>
          simp only [ev] at h
          obtain ⟨v, hv, rv⟩ := I.now ei ev
          cases eg : g [d] with
          | none => simp only [eg] at h; exact h.elim
          | some z => simp only [eg] at h; exact ⟨v, hv, ok F H σ env v d z Q I rv eg fun w F' H' I' s' r' => h F' H' I' s' w r'⟩
end
/-! ### the law's end -/
def spLaw (K : PySem.W.Frag) : Sp := fun vs H Q _ => ∃ (a : Addr) (ns : List Int), vs = [.ref a] ∧ SqL K H a (ns.map V.int) ∧ ns.length ≤ 63 ∧ ∀ H', Q (.bl true) H'
theorem law_end {P : Program} {w : World} {K : PySem.W.Frag} {mg : Str → Option Value} {base : Heap} {k : Nat} {f : Addr} {fd : FuncData} {ps : List Str} {g : DF} (h : FnOk P w K mg base CX0 k f fd ps (sp0 K mg 1 g)) (t : ∀ ns : List Int, ns.length ≤ 63 → ∃ bs, g [.scr ns] = .ok (.frz (.bl true), bs)) : FnOk P w K mg base CX0 k f fd ps (spLaw K) :=
  h.imp fun vs H Q E ⟨a, ns, e, hs, hl, q⟩ => by
    subst e
    obtain ⟨bs, hg⟩ := t ns hl
    refine ⟨rfl, H, [.scr ns], .refl _, repCons (by unfold Rep; exact ⟨a, rfl, hs⟩) repNil, ?_⟩
    rw [hg]
    intro v F' H' x r
    have r : Rep K mg F' (.bl true) v := r
    rw [r.bl]
    exact q H'
end Dd

namespace Dd
open PySem PySem.Spec PyProof.Rows L2
/-! ### how keyword-only parameters are bound, for any names -/
section
open PySem.W (Looks)
variable {M : Model} {h : Heap}
theorem looks_loop {α σ : Type} {f : α → σ → Sem (ForInStep σ)} (step : σ → α → σ) (Pv : List α → σ → Prop) (hs : ∀ a r s, Pv (a :: r) s → Looks M h (f a s) (.yield (step s a)) ∧ Pv r (step s a)) :
    ∀ (l : List α) (s : σ), Pv l s → Looks M h (forIn l s f) (l.foldl step s)
  | [], s, _ => by
    rw [List.forIn_nil]
    exact Looks.now
  | a :: l, s, hp => by
    obtain ⟨h1, h2⟩ := hs a l s hp
    rw [List.forIn_cons]
    exact h1.andThen (looks_loop step Pv hs l _ h2)
end
/-- the place of a name -/
def posOf : List Str → Str → Option Nat
  | [], _ => none
  | k :: r, n => if n == k then some 0 else (posOf r n).map (· + 1)
/-- told values at their places, defaults elsewhere -/
def fill {α : Type} : List (Option Nat) → List α → List α → List α
  | some i :: r, d :: ds, ws => ws.getD i d :: fill r ds ws
  | none :: r, d :: ds, ws => d :: fill r ds ws
  | _, _, _ => []
theorem vals_fill {zs : List V} {ws : List Value} (hz : Vals zs ws) : ∀ (is : List (Option Nat)) {dv : List V} {ds : List Value}, Vals dv ds → Vals (fill is dv zs) (fill is ds ws)
  | [], _, _, _ => by
    unfold fill
    exact .nil
  | some i :: r, _, _, .nil => .nil
  | none :: r, _, _, .nil => .nil
  | some i :: r, d :: dv, u :: ds, .cons a b => by
    refine .cons ?_ (vals_fill hz r b)
    rw [List.getD_eq_getElem?_getD, List.getD_eq_getElem?_getD]
    cases e : zs[i]? with
    | some x =>
      obtain ⟨u', h1, h2⟩ := Vals.get hz e
      rw [h1]
      exact h2
    | none =>
      rw [List.getElem?_eq_none_iff] at e
      rw [List.getElem?_eq_none_iff.mpr (by rw [← hz.length]; exact e)]
      exact a
  | none :: r, d :: dv, u :: ds, .cons a b => .cons a (vals_fill hz r b)
/-- the defaults put behind -/
def addD : List (Str × Value) → List (Str × Value) → List (Str × Value)
  | [], S => S
  | p :: r, S => if (S.lookup p.1).isNone then addD r (S ++ [p]) else addD r S
theorem look_app (a b : List (Str × Value)) (n : Str) : (a ++ b).lookup n = (a.lookup n).or (b.lookup n) := by
  induction a with
  | nil => rfl
  | cons p a ih =>
    obtain ⟨k, v⟩ := p
    rw [List.cons_append, List.lookup_cons, List.lookup_cons]
    split
    · rfl
    · exact ih
theorem look_addD : ∀ (R S : List (Str × Value)) (m : Str), (addD R S).lookup m = (S.lookup m).or (R.lookup m)
  | [], S, m => by
    rw [addD, List.lookup_nil, Option.or_none]
  | (n, d) :: R, S, m => by
    rw [addD]
    split
    · rename_i e
      rw [look_addD R, look_app, List.lookup_cons, List.lookup_cons, List.lookup_nil]
      cases S.lookup m with
      | some v => rfl
      | none => cases hb : (m == n) <;> simp
    · rename_i e
      rw [look_addD R, List.lookup_cons]
      cases hb : (m == n) with
      | true =>
        have : m = n := eq_of_beq hb
        subst this
        cases hs : S.lookup m with
        | some v => rfl
        | none => rw [hs] at e; exact absurd rfl e
      | false => rfl
theorem fm_zip (f : Str → Option Value) : ∀ (ns : List Str) (us : List Value), us.length = ns.length → (∀ p ∈ ns.zip us, f p.1 = some p.2) → (ns.filterMap fun n => (f n).map (n, ·)) = ns.zip us
  | [], [], _, _ => rfl
  | n :: ns, u :: us, hl, hf => by
    have h1 : f n = some u := hf (n, u) (by simp)
    rw [List.filterMap_cons, h1, List.zip_cons_cons]
    exact congrArg ((n, u) :: ·) (fm_zip f ns us (by simpa using hl) fun p hp => hf p (by rw [List.zip_cons_cons]; exact List.mem_cons_of_mem _ hp))
theorem look_zip : ∀ (ns : List Str) (us : List Value), ns.Nodup → ∀ p ∈ ns.zip us, (ns.zip us).lookup p.1 = some p.2
  | [], _, _, p, hp => by simp at hp
  | _ :: _, [], _, p, hp => by simp at hp
  | n :: ns, u :: us, nd, p, hp => by
    rw [List.zip_cons_cons] at hp ⊢
    rw [List.lookup_cons]
    rcases List.mem_cons.mp hp with rfl | hp
    · simp
    · have hne : p.1 ≠ n := fun z => by
        have := (List.of_mem_zip (show (p.1, p.2) ∈ ns.zip us from hp)).1
        rw [z] at this
        exact (List.nodup_cons.mp nd).1 this
      rw [beq_eq_false_iff_ne.mpr hne]
      exact look_zip ns us (List.nodup_cons.mp nd).2 p hp
theorem look_no : ∀ (ns : List Str) (us : List Value) (m : Str), m ∉ ns → (ns.zip us).lookup m = none
  | [], _, _, _ => by rw [List.zip_nil_left]; rfl
  | _ :: _, [], _, _ => by rw [List.zip_nil_right]; rfl
  | n :: ns, u :: us, m, hm => by
    rw [List.zip_cons_cons, List.lookup_cons, beq_eq_false_iff_ne.mpr (show m ≠ n from fun z => hm (by rw [z]; exact List.mem_cons_self))]
    exact look_no ns us m fun z => hm (List.mem_cons_of_mem _ z)
theorem look_pos : ∀ (ks : List Str) (ws : List Value) (m : Str), (ks.zip ws).lookup m = (posOf ks m).bind (ws[·]?)
  | [], _, _ => by rw [List.zip_nil_left]; rfl
  | k :: ks, [], m => by
    rw [List.zip_nil_right, List.lookup_nil]
    cases posOf (k :: ks) m <;> rfl
  | k :: ks, w :: ws, m => by
    rw [List.zip_cons_cons, List.lookup_cons, posOf]
    cases hb : (m == k) with
    | true => rfl
    | false =>
      rw [if_neg (by decide)]
      show List.lookup m (ks.zip ws) = _
      rw [look_pos ks ws m]
      cases posOf ks m <;> rfl
theorem pos_lt : ∀ (ks : List Str) (m : Str) (i : Nat), posOf ks m = some i → i < ks.length
  | [], _, _, e => by cases e
  | k :: ks, m, i, e => by
    rw [posOf] at e
    split at e
    · cases e
      simp
    · cases hp : posOf ks m with
      | none => rw [hp] at e; cases e
      | some j =>
        rw [hp] at e
        cases e
        have := pos_lt ks m j hp
        simp only [List.length_cons]
        omega
theorem fill_look (ks : List Str) (ws : List Value) (f : Str → Option Value) (hl : ws.length = ks.length) : ∀ (kw : List Str) (ds : List Value), ds.length = kw.length → (∀ n ∈ kw, ∀ i, posOf ks n = some i → f n = ws[i]?) → (∀ q ∈ kw.zip ds, posOf ks q.1 = none → f q.1 = some q.2) →
    (kw.filterMap fun n => (f n).map (n, ·)) = kw.zip (fill (kw.map (posOf ks)) ds ws)
  | [], [], _, _, _ => rfl
  | n :: kw, d :: ds, h, h1, h2 => by
    have ih := fill_look ks ws f hl kw ds (by simpa using h) (fun m hm => h1 m (List.mem_cons_of_mem _ hm)) (fun q hq => h2 q (by rw [List.zip_cons_cons]; exact List.mem_cons_of_mem _ hq))
    rw [List.map_cons, List.filterMap_cons]
    cases e : posOf ks n with
    | none =>
      rw [h2 (n, d) (by simp) e]
      show (n, d) :: _ = (n :: kw).zip (d :: fill _ ds ws)
      rw [List.zip_cons_cons, ih]
    | some i =>
      have hi := pos_lt ks n i e
      rw [h1 n List.mem_cons_self i e, List.getElem?_eq_getElem (by omega)]
      show (n, ws[i]) :: _ = (n :: kw).zip (ws.getD i d :: fill _ ds ws)
      rw [List.zip_cons_cons, ih, List.getD_eq_getElem?_getD, List.getElem?_eq_getElem (by omega)]
      rfl
theorem fold_app : ∀ (kw S : List (Str × Value)) (ex : List (Str × Value)), kw.foldl (fun (s : List (Str × Value) × List (Str × Value)) p => (s.1 ++ [p], s.2)) (S, ex) = (S ++ kw, ex)
  | [], S, ex => by simp
  | p :: kw, S, ex => by
    rw [List.foldl_cons, fold_app kw]
    simp
theorem looks_loop2 {K : PySem.W.Frag} {M : Model} {h : Heap} {D : Addr} (X : K.In h) (S : List (Str × Value)) (ks kwo : List Str) (ds : List Value) (hd : ds.length = kwo.length)
    (hq : ∀ q ∈ kwo.zip ds, S.lookup q.1 = none → PySem.W.nsIn K D q.1 = some (some q.2)) :
    PySem.W.Looks M h (forIn kwo (S, ([] : List Str)) fun name __s => if (List.lookup name __s.fst).isNone = true then do
        let dflt ← nsGet D name
        match dflt with
          | some v => pure (ForInStep.yield (__s.fst ++ [(name, v)], __s.snd))
          | none => pure (ForInStep.yield (__s.fst, __s.snd ++ [name]))
      else pure (ForInStep.yield (__s.fst, __s.snd))) (addD (kwo.zip ds) S, []) := by
  induction kwo generalizing S ds with
  | nil =>
    rw [List.forIn_nil, List.zip_nil_left]
    exact PySem.W.Looks.now
  | cons n kwo ih =>
    cases ds with
    | nil => simp at hd
    | cons d ds =>
      rw [List.forIn_cons, List.zip_cons_cons, addD]
      rw [List.zip_cons_cons] at hq
      cases e : S.lookup n with
      | none =>
        simp only [e, Option.isNone_none, if_true]
        refine PySem.W.Looks.andThen (a := ForInStep.yield (S ++ [(n, d)], [])) ((PySem.W.looks_nsIn X (hq (n, d) List.mem_cons_self e)).andThen PySem.W.Looks.now) ?_
        refine ih (S ++ [(n, d)]) ds (by simpa using hd) fun q h1 h2 => hq q (List.mem_cons_of_mem _ h1) ?_
        rw [look_app] at h2
        cases e2 : S.lookup q.1 with
        | none => rfl
        | some v => rw [e2] at h2; cases h2
      | some v =>
        simp only [e, Option.isNone_some, Bool.false_eq_true, if_false]
        refine PySem.W.Looks.andThen (a := ForInStep.yield (S, [])) PySem.W.Looks.now ?_
        exact ih S ds (by simpa using hd) fun q h1 h2 => hq q (List.mem_cons_of_mem _ h1) h2
theorem binds_kw {K : PySem.W.Frag} {M : Model} {h : Heap} (X : K.In h) {x qual : Str} {params : Arguments} {body : List Stmt} {scope : Scope} {D : Addr} {doc pm : Value} {an : Option Addr} {cdv ct : Value} {us ws ds : List Value} {ns ks kwo : List Str}
    (hpo : params.posonlyargs = []) (hva : params.vararg = none) (hka : params.kwarg = none) (hns : params.args.map (·.arg) = ns) (hkw : params.kwonlyargs.map (·.arg) = kwo)
    (nd : (ns ++ kwo).Nodup) (nk : ks.Nodup) (sk : ∀ k ∈ ks, k ∈ kwo) (hl : us.length = ns.length) (hw : ws.length = ks.length) (hd : ds.length = kwo.length)
    (hq : ∀ q ∈ kwo.zip ds, posOf ks q.1 = none → PySem.W.nsIn K D q.1 = some (some q.2)) :
    PySem.W.Looks M h (bindArgs (PySem.W.fnOf x qual params body scope .none (.ref D) doc pm an cdv ct) ⟨us, ks.zip ws⟩) ((ns ++ kwo).zip (us ++ fill (kwo.map (posOf ks)) ds ws)) := by
  have nd1 := (List.nodup_append.mp nd).1
  have nd2 := (List.nodup_append.mp nd).2.1
  have dj : ∀ k ∈ kwo, k ∉ ns := fun k hk hn => (List.nodup_append.mp nd).2.2 k hn k hk rfl
  unfold bindArgs
  simp only [PySem.W.fnOf, hpo, hva, hka, hns, hkw, List.map_nil, List.nil_append]
  refine PySem.W.Looks.andThen (a := (ns.zip us ++ ks.zip ws, [])) ?_ ?_
  · have e := looks_loop (M := M) (h := h) (f := ?_) (fun (s : List (Str × Value) × List (Str × Value)) p => (s.1 ++ [p], s.2)) (fun l s => (∀ p ∈ l, p.1 ∈ kwo ∧ s.1.lookup p.1 = none) ∧ (l.map (·.1)).Nodup) ?_ (ks.zip ws) (ns.zip us, []) ?_
    · rw [fold_app] at e
      exact e
    · rintro p r s ⟨h1, h2⟩
      obtain ⟨hp1, hp2⟩ := h1 p List.mem_cons_self
      refine ⟨?_, fun q hq => ⟨(h1 q (List.mem_cons_of_mem _ hq)).1, ?_⟩, (List.nodup_cons.mp (show (p.1 :: r.map (·.1)).Nodup from h2)).2⟩
      · simp only [hp2, List.contains_iff_mem.mpr hp1, Bool.or_true, if_true, Option.isSome_none]
        exact PySem.W.Looks.now
      · rw [look_app, (h1 q (List.mem_cons_of_mem _ hq)).2, List.lookup_cons, List.lookup_nil]
        have : q.1 ≠ p.1 := fun z => (List.nodup_cons.mp (show (p.1 :: r.map (·.1)).Nodup from h2)).1 (z ▸ List.mem_map_of_mem hq)
        rw [beq_eq_false_iff_ne.mpr this]
        rfl
    · refine ⟨fun p hp => ?_, ?_⟩
      · have hk := sk _ (List.of_mem_zip (show (p.1, p.2) ∈ ks.zip ws from hp)).1
        exact ⟨hk, look_no _ _ _ (dj _ hk)⟩
      · rw [show (ks.zip ws).map (·.1) = ks from List.map_fst_zip (by omega)]
        exact nk
  refine PySem.W.Looks.andThen (a := none) (.of_pure rfl) ?_
  have m1 : (List.filter (fun n => (List.lookup n (ns.zip us ++ ks.zip ws)).isNone) ns) = [] := by
    rw [List.filter_eq_nil_iff]
    intro n hn
    obtain ⟨i, hi, rfl⟩ := List.getElem_of_mem hn
    have := look_zip ns us nd1 (ns[i], us[i]) (by rw [List.mem_iff_getElem]; exact ⟨i, by rw [List.length_zip]; omega, by simp⟩)
    rw [look_app, this]
    simp
  have c1 : ¬ (us.length > ns.length) := by omega
  simp only [Option.getD_none, List.toList_toArray, List.length_nil, Nat.zero_sub, List.drop_nil, Nat.sub_zero, List.take_length, m1, List.isEmpty_nil, Bool.not_true, List.drop_length, List.zip_nil_left, List.forIn_nil, pure_bind, decide_eq_false c1, Bool.false_and, Bool.false_eq_true, if_false]
  refine PySem.W.Looks.andThen (a := (addD (kwo.zip ds) (ns.zip us ++ ks.zip ws), [])) ?_ ?_
  · have e := looks_loop2 (M := M) (h := h) (D := D) X (ns.zip us ++ ks.zip ws) ks kwo ds hd ?_
    · exact e
    · intro q hq' hn
      refine hq q hq' ?_
      cases hp : posOf ks q.1 with
      | none => rfl
      | some i =>
        exfalso
        have hi := pos_lt ks q.1 i hp
        rw [look_app, look_pos ks, hp] at hn
        have : ws[i]? = some ws[i] := List.getElem?_eq_getElem (by omega)
        simp [this] at hn
  · simp only [List.isEmpty_nil, Bool.not_true, Bool.false_eq_true, if_false]
    refine .of_pure ?_
    have z1 : (ns.filterMap fun n => ((addD (kwo.zip ds) (ns.zip us ++ ks.zip ws)).lookup n).map (n, ·)) = ns.zip us := fm_zip _ ns us hl fun p hp => by
      rw [look_addD, look_app, look_zip ns us nd1 p hp]
      rfl
    have z2 : (kwo.filterMap fun n => ((addD (kwo.zip ds) (ns.zip us ++ ks.zip ws)).lookup n).map (n, ·)) = kwo.zip (fill (kwo.map (posOf ks)) ds ws) := fill_look ks ws _ hw kwo ds hd (fun n hn i hi => by
      have h2 := pos_lt ks n i hi
      rw [look_addD, look_app, look_no _ _ _ (dj n hn), look_pos ks, hi]
      show (((none : Option Value).or ((some i).bind (ws[·]?))).or _) = _
      rw [Option.none_or, Option.bind_some, List.getElem?_eq_getElem (by omega)]
      rfl) (fun q hq' hn => by
      have hm := (List.of_mem_zip (show (q.1, q.2) ∈ kwo.zip ds from hq')).1
      rw [look_addD, look_app, look_no _ _ _ (dj _ hm), look_pos ks, hn, look_zip kwo ds nd2 q hq']
      rfl)
    rw [List.filterMap_append, z1, z2, List.zip_append (by omega)]
/-! ### constants of the module, classes with keyword-only parameters -/
/-- the module's name x holds v -/
def Kon (mg : Str → Option Value) (x : Str) (v : V) : Prop := ∃ u, mg x = some u ∧ RelV v u
/-- a tuple of the written part -/
def TupK (K : PySem.W.Frag) (a : Addr) (xs : List V) : Prop := ∃ (o : Obj) (its : Array Value) (n : Nat), K.lookup a = some o ∧ o.cls = .type "tuple" ∧ o.data = .seq its n ∧ its.size ≤ sizeLine ∧ Vals xs its.toList
/-- a class: where it stands, and that its instances are plain -/
structure ClsF (K : PySem.W.Frag) (mg : Str → Option Value) (x : Str) : Prop where
  g : mg x = some (.ref (clsA mg x))
  cl : Cls K (clsA mg x)
  ha : PySem.W.findIn K (.ref (clsA mg x)) "__class__" = some (some (.builtin "object.__class__"))
  hn : PySem.W.specialIn K (.builtin "object.__class__") "__get__" = some (some (.builtin "getset_descriptor.__get__"))
  ht : PySem.W.takesIn K (.builtin "object.__class__") = some true
  hm : PySem.W.mroIn K (clsA mg x) (.type "object") = some true
/-- its __init__ -/
def InitD (K : PySem.W.Frag) (mg : Str → Option Value) (x qual : Str) (st : Stmt) (kws : List (Str × V)) : Prop :=
  ∃ f fd, Mk K (clsA mg x) f ∧ FunD K "__init__" qual (defArgs st) (defBody st) (defScope st) [] kws f fd
/-- the class x is made by an __init__ that keeps its promise -/
structure OkC (P : Program) (w : World) (K : PySem.W.Frag) (mg : Str → Option Value) (base : Heap) (C : CXT) (x qual : Str) (st : Stmt) (k : Nat) (ps : List Str) (kws : List (Str × V)) (sp : Sp) : Prop where
  ex : ∃ f fd, Mk K (clsA mg x) f ∧ FunD K "__init__" qual (defArgs st) (defBody st) (defScope st) [] kws f fd ∧ FnOk P w K mg base C k f fd ps sp ∧ mg x = some (.ref (clsA mg x))
/-- the names that a def's parameters have, and where those that are told by name stand -/
structure ShapeF (st : Stmt) (ns kwo ks : List Str) (is : List (Option Nat)) : Prop where
  po : (defArgs st).posonlyargs = []
  va : (defArgs st).vararg = none
  ka : (defArgs st).kwarg = none
  hns : (defArgs st).args.map (·.arg) = ns
  hkw : (defArgs st).kwonlyargs.map (·.arg) = kwo
  nd : (ns ++ kwo).Nodup
  nk : ks.Nodup
  sk : ∀ k ∈ ks, k ∈ kwo
  ei : kwo.map (posOf ks) = is
theorem rel_some : ∀ v : V, ∃ u, RelV v u
  | .non => ⟨_, rfl⟩
  | .bl _ => ⟨_, rfl⟩
  | .int _ => ⟨_, 0, rfl⟩
  | .str _ => ⟨_, 0, rfl⟩
  | .byt _ => ⟨_, 0, rfl⟩
  | .flt _ => ⟨_, 0, rfl⟩
  | .ref _ => ⟨_, rfl⟩
  | .ty _ => ⟨_, rfl⟩
theorem dv_vals {K : PySem.W.Frag} {D : Addr} (c : Str → Option Nat) : ∀ (kwo : List Str) (dv : List V), dv.length = kwo.length → (∀ q ∈ kwo.zip dv, c q.1 = none → ∃ u, PySem.W.nsIn K D q.1 = some (some u) ∧ RelV q.2 u) →
    ∃ ds : List Value, ds.length = kwo.length ∧ Vals dv ds ∧ ∀ q ∈ kwo.zip ds, c q.1 = none → PySem.W.nsIn K D q.1 = some (some q.2)
  | [], [], _, _ => ⟨[], rfl, .nil, fun q hq => by simp at hq⟩
  | n :: kwo, v :: dv, hl, h => by
    obtain ⟨ds, l, r, a⟩ := dv_vals c kwo dv (by simpa using hl) fun q hq => h q (by rw [List.zip_cons_cons]; exact List.mem_cons_of_mem _ hq)
    cases e : c n with
    | none =>
      obtain ⟨u, e1, e2⟩ := h (n, v) (by simp) e
      refine ⟨u :: ds, by simp [l], .cons e2 r, fun q hq hc => ?_⟩
      rw [List.zip_cons_cons] at hq
      rcases List.mem_cons.mp hq with rfl | hq
      · exact e1
      · exact a q hq hc
    | some i =>
      obtain ⟨u, e2⟩ := rel_some v
      refine ⟨u :: ds, by simp [l], .cons e2 r, fun q hq hc => ?_⟩
      rw [List.zip_cons_cons] at hq
      rcases List.mem_cons.mp hq with rfl | hq
      · rw [e] at hc
        cases hc
      · exact a q hq hc
theorem fill_none : ∀ (kwo : List Str) (ds : List Value), ds.length = kwo.length → fill (kwo.map (posOf [])) ds [] = ds
  | [], [], _ => rfl
  | n :: kwo, d :: ds, hl => congrArg (d :: ·) (fill_none kwo ds (by simpa using hl))
section
variable {K : PySem.W.Frag} {qual : Str} {st : Stmt} {f : Addr} {fd : FuncData} {kws : List (Str × V)} {ns kwo ks ps : List Str} {is : List (Option Nat)} {dv : List V}
/-- how C(.., ks by name) binds -/
theorem funD_kbn {x : Str} (F : FunD K x qual (defArgs st) (defBody st) (defScope st) [] kws f fd) (S : ShapeF st ns kwo ks is) (hps : ps = ns ++ kwo) (hk : kws ≠ []) (hd : dv.length = kwo.length) (hm : ∀ q ∈ kwo.zip dv, posOf ks q.1 = none → q ∈ kws) :
    ∃ ds : List Value, KBn K fd ps ns.length ks (fun us ws => us ++ fill is ds ws) (fun vs zs => vs ++ fill is dv zs) := by
  obtain ⟨oc, od, dV, kV, doc, pm, an, cdv, ct, osl, rfl, lk, hcd, hD, hK⟩ := F.ex
  rcases hD with ⟨_, rfl⟩ | ⟨e, _⟩
  · rcases hK with e | ⟨D, rfl, hq⟩
    · exact absurd e hk
    · obtain ⟨ds, l, r, a⟩ := dv_vals (K := K) (D := D) (posOf ks) kwo dv hd fun q h1 h2 => hq q (hm q h1 h2)
      refine ⟨ds, ⟨fun s us ws X l1 l2 => BindsTo.of_looks fun M => ?_, fun r1 r2 => r1.append (vals_fill r2 is r)⟩⟩
      rw [hps, ← S.ei]
      exact binds_kw X S.po S.va S.ka S.hns S.hkw S.nd S.nk S.sk l1 l2 l a
  · exact absurd rfl e
/-- how C(..) binds -/
theorem funD_kb0 {x : Str} (F : FunD K x qual (defArgs st) (defBody st) (defScope st) [] kws f fd) (S : ShapeF st ns kwo [] is) (hps : ps = ns ++ kwo) (hk : kws ≠ []) (hd : dv.length = kwo.length) (hm : ∀ q ∈ kwo.zip dv, q ∈ kws) :
    ∃ ds : List Value, Vals dv ds ∧ Binds K fd ps ds := by
  obtain ⟨oc, od, dV, kV, doc, pm, an, cdv, ct, osl, rfl, lk, hcd, hD, hK⟩ := F.ex
  rcases hD with ⟨_, rfl⟩ | ⟨e, _⟩
  · rcases hK with e | ⟨D, rfl, hq⟩
    · exact absurd e hk
    · obtain ⟨ds, l, r, a⟩ := dv_vals (K := K) (D := D) (posOf []) kwo dv hd fun q h1 h2 => hq q (hm q h1)
      refine ⟨ds, r, fun s us X hl => BindsTo.of_looks fun M => ?_⟩
      rw [hps, List.length_append, List.length_append] at hl
      have := binds_kw (M := M) (ds := ds) (us := us) (ws := []) (x := x) (qual := qual) (body := defBody st) (scope := defScope st) (doc := doc) (pm := pm) (an := an) (cdv := cdv) (ct := ct) X S.po S.va S.ka S.hns S.hkw S.nd S.nk S.sk (by omega) rfl l a
      rw [fill_none kwo ds l] at this
      rw [hps]
      exact this
  · exact absurd rfl e
end
section
variable {X : Cx} {x qual : Str} {st : Stmt} {ps ks lack : List Str} {is : List Nat} {k n : Nat} {kws : List (Str × V)} {sp : Sp} {e : Expr} {es : List Expr} {kk : List Keyword} {t tk : TA} {p pos : Pos} {v : V} {W : WX} {C : CXT} {E : XK}
theorem pe_kon (h : Kon X.mg x v) (hg : Gl X x) (hd : (x == ("__debug__" : Str)) = false := by decide) : PE X (.Name x pos) (tC v) := by
  obtain ⟨u, h, r⟩ := h
  exact pe_glob hg h r hd
def tNevE : TE := fun _ _ _ => False
theorem pe_never : PE X e tNevE := ⟨fun _ _ _ _ _ _ h => h.elim⟩
end
section
variable {X : Cx} {x qual : Str} {st : Stmt} {ns ps ks kwo : List Str} {is : List (Option Nat)} {k : Nat} {kws : List (Str × V)} {dv : List V} {sp : Sp} {e : Expr} {es : List Expr} {kk : List Keyword} {t tk : TA} {p pos : Pos} {v : V} {W : WX} {C : CXT} {E : XK}
/-- C(k = v, ..) where nothing is raised -/
theorem makOK (O : OkC X.prog X.w X.K X.mg X.base CX0 x qual st k ps kws sp) (S : ShapeF st ["self"] kwo ks is) (hr : Room (k + 1) X.A) (hg : Gl X x) (hkw : PK X kk tk) (hd : dv.length = kwo.length) (hm : ∀ q ∈ kwo.zip dv, posOf ks q.1 = none → q ∈ kws) (hps : ps = ("self" : Str) :: kwo := by rfl) (hk : kws ≠ [] := by exact fun z => by cases z)
    (hall : (backToKw pos (keywordEach kk X.env)).all (·.1.isSome) = true := by rfl) (hks : (backToKw pos (keywordEach kk X.env)).filterMap (·.1) = ks := by rfl) (hdb : (x == ("__debug__" : Str)) = false := by decide)
    (hpl : ((backTo pos (starEach [] X.env)).any (·.1) || (backToKw pos (keywordEach kk X.env)).any (·.1.isNone)) = false := by rfl) :
    PE X (.Call (.Name x p) [] kk pos) (tMakeK (clsA X.mg x) 0 ks.length sp (fun vs zs => vs ++ fill is dv zs) E0 tNil tk) := by
  obtain ⟨f, fd, M, F, G, m⟩ := O
  obtain ⟨ds, kb⟩ := funD_kbn F S hps hk hd hm
  exact pe_makeK0 M G hr hg m kb pass0 hkw hall hks hdb hpl
/-- C() where nothing is raised -/
theorem makO0 (O : OkC X.prog X.w X.K X.mg X.base CX0 x qual st k ps kws sp) (S : ShapeF st ["self"] kwo [] is) (hr : Room (k + 1) X.A) (hg : Gl X x) (hd : dv.length = kwo.length) (hm : ∀ q ∈ kwo.zip dv, q ∈ kws) (hps : ps = ("self" : Str) :: kwo := by rfl) (hk : kws ≠ [] := by exact fun z => by cases z) (hdb : (x == ("__debug__" : Str)) = false := by decide) :
    PE X (.Call (.Name x p) [] [] pos) (tMake (clsA X.mg x) sp dv E0 tNil) := by
  obtain ⟨f, fd, M, F, G, m⟩ := O
  obtain ⟨ds, hv, hb⟩ := funD_kb0 F S hps hk hd hm
  exact pe_make0 M G hr hg m hb hv pass0 hdb
end
end Dd

namespace Dd
open PySem PySem.Spec PyProof.Rows L2
/-! ### instances: e.x, self.x = e, C(..) -/
theorem rep_lookup {K : PySem.W.Frag} {mg : Str → Option Value} {H : Hp} {f : Str} {d : D} : ∀ {ks : List Str} {ds : List D} {xs : List V}, ks.length = ds.length → RepL K mg H ds xs → (ks.zip ds).lookup f = some d → ∃ x, (ks.zip xs).lookup f = some x ∧ Rep K mg H d x
  | [], _, _, _, _, h => by cases h
  | g :: ks, [], _, hl, _, h => by cases hl
  | g :: ks, e :: ds, xs, hl, r, h => by
    obtain ⟨x, xs', rfl, h1, h2⟩ := r.cons
    rw [List.zip_cons_cons, List.lookup_cons] at h ⊢
    cases hg : (f == g) with
    | true =>
      rw [hg] at h
      cases h
      exact ⟨x, rfl, h1⟩
    | false =>
      rw [hg] at h
      exact rep_lookup (by simpa using hl) h2 h
/-- a table: the classes whose instances have the attribute on themselves alone -/
def AtT (K : PySem.W.Frag) (mg : Str → Option Value) (tab : Str → Bool) (f : Str) : Prop := ∀ c, tab c = true → Cls K (clsA mg c) ∧ NoAttr K (clsA mg c) f
def gAttr (tab : Str → Bool) (f : Str) : D → Option Sl
  | .obj c ks ds => if tab c then ((ks.zip ds).lookup f).map .frz else none
  | _ => none
def attrD (tab : Str → Bool) (f : Str) (g : DE) : DE := lift1 (gAttr tab f) g
theorem qe_attr {X : Cx} {C : Cd} {e : Expr} {g : DE} {f : Str} {pos : Pos} {tab : Str → Bool} (ft : Fit X C) (t0 : AtT X.K X.mg tab f) (h : PE X e (tD C g)) (hb : attributeBase e f X.env (eval e X.env) = eval e X.env := by rfl) : PE X (.Attribute e f pos) (tD C (attrD tab f g)) := by
  have q := pe_fld (pos := pos) (qz h) hb
  rw [ft.k] at q
  have t : AtT C.K C.mg tab f := by rw [← ft.k, ← ft.m]; exact t0
  refine PE.weak q fun σ H Q ⟨F, env, I, h⟩ => ⟨F, env, I, (Fin.bnd h).imp fun s e F1 H1 I1 s1 h1 x rx => ?_⟩
  cases eg : gAttr tab f s.d with
  | none => simp only [eg] at h1; exact h1.elim
  | some z =>
    simp only [eg] at h1
    cases ed : s.d <;> rw [ed] at eg rx <;> first | (cases eg; done) | skip
    rename_i c ks ds
    unfold gAttr at eg
    simp only at eg
    split at eg
    · rename_i ht
      cases el : (ks.zip ds).lookup f with
      | none => rw [el] at eg; cases eg
      | some d =>
        rw [el] at eg
        cases eg
        unfold Rep at rx
        obtain ⟨a, dx, xs, rfl, ha, hl, hr⟩ := rx
        obtain ⟨y, hy, ry⟩ := rep_lookup hl hr el
        exact ⟨a, _, dx, _, y, rfl, I1.fh _ _ ha, (t c ht).1, (t c ht).2, hy, h1 F1 H1 I1 (.refl _) y ry⟩
    · cases eg
def putK (f : Str) : List Str → List Str
  | [] => [f]
  | g :: r => if g = f then g :: r else g :: putK f r
def putD (f : Str) (d : D) : List Str → List D → List D
  | [], _ => [d]
  | g :: r, e :: t => if g = f then d :: t else e :: putD f d r t
  | _, [] => [d]
theorem rep_put {K : PySem.W.Frag} {mg : Str → Option Value} {H : Hp} {f : Str} {d : D} {y : V} (ry : Rep K mg H d y) : ∀ {ks : List Str} {ds : List D} {xs : List V}, ks.length = ds.length → RepL K mg H ds xs → ∃ xs', putF f y (ks.zip xs) = (putK f ks).zip xs' ∧ RepL K mg H (putD f d ks ds) xs' ∧ (putK f ks).length = (putD f d ks ds).length
  | [], [], xs, _, r => ⟨[y], by rw [r.nil]; rfl, repCons ry repNil, rfl⟩
  | [], _ :: _, _, hl, _ => by cases hl
  | g :: ks, [], _, hl, _ => by cases hl
  | g :: ks, e :: ds, xs, hl, r => by
    obtain ⟨x, xs', rfl, h1, h2⟩ := r.cons
    unfold putK putD
    rw [List.zip_cons_cons]
    unfold putF
    by_cases hg : g = f
    · rw [if_pos hg, if_pos hg, if_pos hg]
      exact ⟨y :: xs', rfl, repCons ry h2, by simpa using hl⟩
    · rw [if_neg hg, if_neg hg, if_neg hg]
      obtain ⟨zs, e1, e2, e3⟩ := rep_put (f := f) ry (ks := ks) (ds := ds) (by simpa using hl) h2
      exact ⟨x :: zs, by rw [e1]; rfl, repCons h1 e2, by simp [e3]⟩
def setAtD (tab : Str → Bool) (f : Str) (i : Nat) (g : DE) : DS := fun env => bindS (g env) fun p => match p.2[i]? with
  | some (some s) => (match s.mut, s.d with
    | true, .obj c ks ds => if tab c && decide (ks.length < 1000) then .ok (.nx (p.2.set i (some (s.put (.obj c (putK f ks) (putD f p.1.d ks ds)))))) else .no
    | _, _ => .no)
  | _ => .no
theorem zip_len {ks : List Str} {xs : List V} : (ks.zip xs).length ≤ ks.length := by rw [List.length_zip]; exact Nat.min_le_left _ _
theorem In.callN {C : Cd} {F H F' H' : Hp} {σ : L2.St} {env : DEnv} (I : In C F H σ env) {p : Addr} {d : D} (n0 : C.H0 p = .none) (ne : ∀ (i : Nat) (s : Sl), env[i]? = some (some s) → s.mut = true → σ[i]? ≠ some (some (.ref p))) (nb : ¬ C.B p) (x : ExtB p F H F' H') (nF : F' p = .none) (o : Own C.K C.mg F' H' d p) : In C F' H' σ env ∧ Fresh C F' H' env σ d p := by
  have free : ∀ q o, F q = Option.none → H q = some o → F' q = Option.none := fun q o h1 h2 => by
    cases e : F' q with
    | none => rfl
    | some z =>
      rcases x.nf q z e with h | h
      · rw [h1] at h; cases h
      · rw [h2] at h; cases h
  refine ⟨⟨I.f0.trans x.ff, x.fh, fun a z h hb => ?_, fun a z h => ?_, I.len, fun j t hj => ?_, I.ds, fun q hq => ?_⟩, nF, n0, o, ne⟩
  · exact x.hh _ _ (I.fr a z h hb) fun e => by rw [e, n0] at h; cases h
  · rcases x.nf a z h with h | h
    · exact I.nf a z h
    · exact .inr (I.none0 h)
  · obtain ⟨v, ev, hs⟩ := I.sl j t hj
    refine ⟨v, ev, ?_⟩
    cases t with
    | frz d => exact Rep.mono x.ff hs
    | exn c => exact hs
    | own d =>
      obtain ⟨q, e1, h1, h2, h3⟩ := hs
      obtain ⟨w, hw⟩ := h3.some
      exact ⟨q, e1, free q w h1 hw, h2, h3.keep x.ff fun o h => x.hh _ _ h fun z => ne j _ hj rfl (by rw [ev, e1, z])⟩
    | bor d =>
      obtain ⟨q, e1, h1, h2, h3⟩ := hs
      obtain ⟨w, hw⟩ := h3.some
      exact ⟨q, e1, free q w h1 hw, h2, h3.keep x.ff fun o h => x.hh _ _ h fun z => ne j _ hj rfl (by rw [ev, e1, z])⟩
  · cases eh : H q with
    | none => exact absurd eh (I.bs q hq)
    | some z => rw [x.hh _ _ eh fun e => nb (e ▸ hq)]; exact fun z => nomatch z
/-- C(..): what __init__ leaves of a new instance -/
def newD (g : DF) (c : Str) (ds : List D) (env : DEnv) : R DEnv (Sl × DEnv) := match g (.obj c [] [] :: ds) with
  | .ok (.frz .non, [d]) => .ok (.own d, env)
  | _ => .no
def makeKD (g : DF) (c : Str) (pk : List D → List D) (kfs : List DE) : DE := fun env => (argsD kfs env).bind fun q => newD g c (pk q.1) q.2
theorem rep_fill {K : PySem.W.Frag} {mg : Str → Option Value} {H : Hp} {zs : List D} {ws : List V} (hz : RepL K mg H zs ws) : ∀ (is : List (Option Nat)) {ds : List D} {dv : List V}, RepL K mg H ds dv → RepL K mg H (fill is ds zs) (fill is dv ws)
  | [], _, _, _ => by unfold fill; exact repNil
  | some i :: r, [], dv, h => by rw [h.nil]; unfold fill; exact repNil
  | none :: r, [], dv, h => by rw [h.nil]; unfold fill; exact repNil
  | some i :: r, d :: ds, dv, h => by
    obtain ⟨x, xs, rfl, h1, h2⟩ := h.cons
    unfold fill
    refine repCons ?_ (rep_fill hz r h2)
    rw [List.getD_eq_getElem?_getD, List.getD_eq_getElem?_getD]
    cases e : zs[i]? with
    | none =>
      have : ws[i]? = none := by
        rw [List.getElem?_eq_none_iff] at e ⊢
        rw [hz.len]
        exact e
      rw [this]
      exact h1
    | some z =>
      obtain ⟨w, e2, rw'⟩ := hz.get e
      rw [e2]
      exact rw'
  | none :: r, d :: ds, dv, h => by
    obtain ⟨x, xs, rfl, h1, h2⟩ := h.cons
    unfold fill
    exact repCons h1 (rep_fill hz r h2)
theorem fill_len {α : Type} {zs : List α} : ∀ {is : List (Option Nat)} {ds : List α}, is.length = ds.length → (fill is ds zs).length = ds.length
  | [], [], _ => rfl
  | some _ :: r, d :: ds, h => by unfold fill; simp [fill_len (zs := zs) (is := r) (ds := ds) (by simpa using h)]
  | none :: r, d :: ds, h => by unfold fill; simp [fill_len (zs := zs) (is := r) (ds := ds) (by simpa using h)]
section
variable {X : Cx} {C : Cd} {i : Nat} {o e : Expr} {ge : DE} {f : Str} {pos pos' p : Pos} {tab : Str → Bool}
theorem qs_setAt (ft : Fit X C) (t : AtT C.K C.mg tab f) (ho : PE X o (tVar i)) (he : PE X e (tD C ge)) (hs : swapsWith e (some (.Attribute o f pos')) pos.line X.env = pure false := by rfl) : PS X (.Assign [.Attribute o f pos'] e pos) (tDS C (setAtD tab f i ge)) := by
  have q := ps_fld ho (qz he) hs
  rw [ft.k] at q
  refine PS.weak q fun T σ H ⟨F, env, I, h⟩ => ⟨F, env, I, (FinS.bnd h).imp fun s e F1 H1 I1 s1 h1 v rv => ?_⟩
  cases ei : e[i]? with
  | none => simp only [ei] at h1; exact h1.elim
  | some z =>
    cases z with
    | none => simp only [ei] at h1; exact h1.elim
    | some u =>
      simp only [ei] at h1
      obtain ⟨w, hv, hs⟩ := I1.sl i u ei
      have fin : ∀ c ks ds q, w = .ref q → u.mut = true → u.d = .obj c ks ds → Own C.K C.mg F1 H1 (.obj c ks ds) q → ∃ a D dx fs, w = .ref a ∧ H1 a = some (.ins D dx fs) ∧ Cls C.K D ∧ NoAttr C.K D f ∧ fs.length < 1000 ∧ T.nx σ (upd H1 a (.ins D dx (putF f v fs))) := by
        intro c ks ds q ew mu hd ho
        subst ew
        obtain ⟨dx, xs, hx, hl, hr⟩ := ho
        simp only [mu, hd] at h1
        split at h1
        · rename_i ht
          rw [Bool.and_eq_true] at ht
          obtain ⟨xs', e1, e2, e3⟩ := rep_put (f := f) rv hl hr
          have hlen := of_decide_eq_true ht.2
          refine ⟨q, _, dx, _, rfl, hx, (t c ht.1).1, (t c ht.1).2, Nat.lt_of_le_of_lt zip_len hlen, h1 σ F1 _ (I1.change ei mu hv ⟨dx, xs', by rw [upd_same, e1], e3, e2⟩) (.refl _)⟩
        · exact h1.elim
      refine ⟨w, hv, ?_⟩
      cases u with
      | frz d => simp only [Sl.mut] at h1; exact h1.elim
      | exn c => simp only [Sl.mut] at h1; exact h1.elim
      | own d =>
        obtain ⟨q, rfl, _, _, ho⟩ := hs
        cases d with
        | obj c ks ds => exact fin c ks ds q rfl rfl rfl ho
        | _ => simp only [Sl.mut, Sl.d] at h1; exact h1.elim
      | bor d =>
        obtain ⟨q, rfl, _, _, ho⟩ := hs
        cases d with
        | obj c ks ds => exact fin c ks ds q rfl rfl rfl ho
        | _ => simp only [Sl.mut, Sl.d] at h1; exact h1.elim
variable {x qual : Str} {st : Stmt} {ps ks kwo : List Str} {is : List (Option Nat)} {k : Nat} {kws : List (Str × V)} {dv : List V} {dfs : List D} {g : DF} {kfs : List DE} {kk : List Keyword}
/-- what holds behind a new instance -/
theorem new_of {F H : Hp} {σ : L2.St} {env : DEnv} {Q : VK} {vs : List V} {ds : List D} {n : Nat} {c : Str} (I : In C F H σ env) (rv : RepL C.K C.mg F ds vs) (hn : (vs.length + 1) = n)
    (h : Fin C F σ (newD g c ds env) fun s e F' H' => ∀ v, Res C F' H' e σ s v → Q v H') : ∀ y dx, H y = none → H dx = none → dx ≠ y → spB C.K C.mg n g (.ref y :: vs) (upd (upd H dx (.own y)) y (.ins (clsA C.mg c) dx [])) (fun v H2 => v = .non ∧ Q (.ref y) H2) E0 := by
  intro y dx ny nd ne
  have I1 := I.alloc (o := .own y) nd
  have ny1 : upd H dx (.own y) y = none := by rw [upd_ne (Ne.symm ne)]; exact ny
  have I2 := I1.fresh (o := .ins (clsA C.mg c) dx []) ny1
  have s1 := I.same (o := .own y) nd
  refine ⟨by simpa using hn, upd F dx (.own y), .obj c [] [], ds, y, vs, rfl, I2.fh, I1.none ny1, ⟨dx, [], upd_same, rfl, repNil⟩, rv.mono s1, ?_⟩
  unfold newD at h
  cases eg : g (.obj c [] [] :: ds) with
  | no => simp only [eg] at h; exact h.elim
  | er a b z => simp only [eg] at h; exact h.elim
  | ok r =>
    obtain ⟨s, l⟩ := r
    cases s with
    | frz d0 =>
      cases d0 with
      | non =>
        match l with
        | [d] =>
          simp only [eg] at h
          intro v F' H' x nF o rs
          obtain ⟨I3, fr⟩ := In.callN I2 (I.none0 ny) (I1.slotNe ny1) (fun hb => I.bs y hb ny) x nF o
          have rs : Rep C.K C.mg F' .non v := rs
          exact ⟨rs.non, h F' H' I3 (s1.trans x.ff) _ ⟨y, rfl, fr⟩⟩
        | [] => simp only [eg] at h; exact h.elim
        | _ :: _ :: _ => simp only [eg] at h; exact h.elim
      | _ => simp only [eg] at h; exact h.elim
    | _ => simp only [eg] at h; exact h.elim
theorem qe_makeK (ft : Fit X C) (O : OkC X.prog X.w X.K X.mg X.base CX0 x qual st k ps kws (spB X.K X.mg ps.length g)) (S : ShapeF st ["self"] kwo ks is) (hr : Room (k + 1) X.A) (hg : Gl X x) (hkw : PK X kk (tDA C kfs)) (hd : dv.length = kwo.length) (hm : ∀ q ∈ kwo.zip dv, posOf ks q.1 = none → q ∈ kws) (hdf0 : ∀ F, RepL X.K X.mg F dfs dv) (hnk : kfs.length = ks.length := by rfl) (hni : is.length = dfs.length := by rfl) (hps : ps = ("self" : Str) :: kwo := by rfl) (hk : kws ≠ [] := by exact fun z => by cases z)
    (hall : (backToKw pos (keywordEach kk X.env)).all (·.1.isSome) = true := by rfl) (hks : (backToKw pos (keywordEach kk X.env)).filterMap (·.1) = ks := by rfl) (hdb : (x == ("__debug__" : Str)) = false := by decide)
    (hpl : ((backTo pos (starEach [] X.env)).any (·.1) || (backToKw pos (keywordEach kk X.env)).any (·.1.isNone)) = false := by rfl) :
    PE X (.Call (.Name x p) [] kk pos) (tD C (makeKD g x (fun zs => fill is dfs zs) kfs)) := by
  have hdf : ∀ F, RepL C.K C.mg F dfs dv := by rw [← ft.k, ← ft.m]; exact hdf0
  have q := makOK O S hr hg hkw hd hm hps hk hall hks hdb hpl (p := p)
  rw [ft.k, ft.m] at q
  refine PE.weak q fun σ H Q ⟨F, env, I, h⟩ => ?_
  show tDA C kfs σ H fun zs H2 => _
  unfold makeKD at h
  refine ⟨F, env, I, ?_⟩
  cases ea : argsD kfs env with
  | no => rw [ea] at h; exact h
  | er c fs z => rw [ea] at h; exact h
  | ok r =>
    rw [ea] at h
    simp only [R.bind_ok] at h
    intro F1 H1 I1 s1 vs rv
    have hdl := (hdf F).len
    refine ⟨rfl, by rw [rv.len, argsD_len ea, hnk], ?_⟩
    have rf : RepL C.K C.mg F1 (fill is dfs r.1) (fill is dv vs) := rep_fill rv is (hdf F1)
    refine new_of I1 rf ?_ (Fin.le s1 h)
    show (fill is dv vs).length + 1 = ps.length
    rw [rf.len, fill_len hni, ← hdl, hd, hps]
    rfl
theorem qe_make0 (ft : Fit X C) (O : OkC X.prog X.w X.K X.mg X.base CX0 x qual st k ps kws (spB X.K X.mg ps.length g)) (S : ShapeF st ["self"] kwo [] is) (hr : Room (k + 1) X.A) (hg : Gl X x) (hd : dv.length = kwo.length) (hm : ∀ q ∈ kwo.zip dv, q ∈ kws) (hdf0 : ∀ F, RepL X.K X.mg F dfs dv) (hps : ps = ("self" : Str) :: kwo := by rfl) (hk : kws ≠ [] := by exact fun z => by cases z) (hdb : (x == ("__debug__" : Str)) = false := by decide) :
    PE X (.Call (.Name x p) [] [] pos) (tD C (fun env => newD g x dfs env)) := by
  have hdf : ∀ F, RepL C.K C.mg F dfs dv := by rw [← ft.k, ← ft.m]; exact hdf0
  have q := makO0 O S hr hg hd hm hps hk hdb (p := p) (pos := pos)
  rw [ft.k, ft.m] at q
  refine PE.weak q fun σ H Q ⟨F, env, I, h⟩ => ?_
  show ∀ y dx, _
  exact new_of I (hdf F) (show dv.length + 1 = ps.length by rw [hd, hps]; rfl) h
end
end Dd

namespace Dd
open PySem PySem.Spec PyProof.Rows L2
/-! ### __init__ as a def whose first argument is changed -/
theorem InitD.okB {P : Program} {w : World} {K : PySem.W.Frag} {mg : Str → Option Value} {base : Heap} {x qual : Str} {st : Stmt} {kws : List (Str × V)} {N ps : List Str} {k : Nat} {g : DS} (D : InitD K mg x qual st kws) (hg : mg x = some (.ref (clsA mg x))) (S : FnScope N ps (defScope st)) (hN : 0 < N.length)
    (hb : ∀ (f : Addr) (cdv : Value) (A : Around) (outer : List Env) (s : Shared) (H : Hp) (E : XK) (F : Hp) (p : Addr), Room k (A.deeper (envOfC qual (defScope st) s.heap.objs.size f cdv)) → Fit (cxOf CX0 P w K mg base N qual (defScope st) f cdv A outer s H E).nox ⟨K, mg, F, H, fun q => q = p, W0, 0, "", false⟩ →
      PSs (cxOf CX0 P w K mg base N qual (defScope st) f cdv A outer s H E).nox (defBody st) (tDS ⟨K, mg, F, H, fun q => q = p, W0, 0, "", false⟩ g)) : OkC P w K mg base CX0 x qual st (k + 1) ps kws (spB K mg ps.length (bodyB N.length g)) := by
  obtain ⟨f, fd, M, F⟩ := D
  refine ⟨f, fd, M, F, F.ok S (fun vs H Q E h => h.1) (fun cdv A outer s H vs Q E hr h => ?_), hg⟩
  obtain ⟨hl, Fz, d0, ds, p, vr, rfl, sm, nF, ow, r, h⟩ := h
  refine ⟨_, PSs.nox (hb f cdv A outer s H E Fz p hr ⟨rfl, rfl⟩), Fz, _, In.startB hN sm nF ow r, ?_⟩
  unfold bodyB at h
  cases e : g (envB N.length (d0 :: ds)) with
  | no => rw [e] at h; exact h
  | er c fs z => rw [e] at h; exact h.elim
  | ok o =>
    rw [e] at h
    cases o with
    | nx z =>
      unfold outB at h
      cases e0 : z[0]? with
      | none => simp only [e0] at h
      | some q =>
        cases q with
        | none => simp only [e0] at h
        | some q =>
          cases q with
          | bor d =>
            simp only [e0] at h
            intro σ F' H' I s
            obtain ⟨x1, x2, x3⟩ := I.endB (vs := vr) e0
            exact h _ F' H' x1 x2 x3 (show Rep K mg F' .non .non from rNon)
          | frz d => simp only [e0] at h
          | exn c => simp only [e0] at h
          | own d => simp only [e0] at h
    | rt t z =>
      unfold outB at h
      cases e0 : z[0]? with
      | none => simp only [e0] at h
      | some q =>
        cases q with
        | none => simp only [e0] at h
        | some q =>
          cases q with
          | bor d =>
            simp only [e0] at h
            intro v σ F' H' I s r
            obtain ⟨x1, x2, x3⟩ := I.endB (vs := vr) e0
            exact h _ F' H' x1 x2 x3 r.out
          | frz d => simp only [e0] at h
          | exn c => simp only [e0] at h
          | own d => simp only [e0] at h
    | bk z => exact h.elim
    | ct z => exact h.elim
/-! ### constants of a module -/
theorem qe_kon {X : Cx} {C : Cd} {x : Str} {v : V} {d : D} {pos : Pos} (ft : Fit X C) (h : Kon X.mg x v) (r : ∀ F, Rep X.K X.mg F d v) (hg : Gl X x) (hd : (x == ("__debug__" : Str)) = false := by decide) : PE X (.Name x pos) (tD C (conD d)) := qe_con (by rw [← ft.k, ← ft.m]; exact r) (pe_kon h hg hd)
theorem rep_TupK {K : PySem.W.Frag} {mg : Str → Option Value} {F : Hp} {a : Addr} {xs : List V} {ds : List D} (h : TupK K a xs) (r : RepL K mg F ds xs) : Rep K mg F (.tup ds) (.ref a) := by
  obtain ⟨o, its, n, h1, h2, h3, h4, h5⟩ := h
  obtain ⟨cls, dd, data, sl⟩ := o
  simp only at h2 h3
  subst h2 h3
  exact rep_kTup h1 rfl rfl h4 h5 r
/-! ### list(range(n)) -/
def lstRgD (f : DE) : DE := fun env => (f env).bind fun p => match p.1.d with
  | .int n => if 0 ≤ n ∧ n ≤ 16777216 then .ok (.own (.lst (rangeL 0 n.toNat)), p.2) else .no
  | _ => .no
theorem rep_rg {K : PySem.W.Frag} {mg : Str → Option Value} {F : Hp} {n : Int} : RepL K mg F (rangeL 0 n.toNat) (rgV 0 n) := by
  unfold rangeL rgV
  rw [Int.sub_zero]
  generalize n.toNat = m
  induction m with
  | zero => exact repNil
  | succ m ih =>
    rw [List.range_succ, List.map_append, List.map_append]
    exact ih.app (repCons rInt repNil)
theorem qe_lstRg {X : Cx} {C : Cd} {a : Expr} {f : DE} {p p2 pos pos2 : Pos} (hc : X.calm = true) (hg : Gl X "list") (hm : X.mg "list" = none) (hg2 : Gl X "range") (hm2 : X.mg "range" = none) (ha : PE X a (tD C f)) (na : starEach [a] X.env = (false, eval a X.env) :: starEach [] X.env := by rfl) (nb : starEach [.Call (.Name "range" p2) [a] [] pos2] X.env = (false, eval (.Call (.Name "range" p2) [a] [] pos2) X.env) :: starEach [] X.env := by rfl) :
    PE X (.Call (.Name "list" p) [.Call (.Name "range" p2) [a] [] pos2] [] pos) (tD C (lstRgD f)) :=
  PE.weak (pe_listRg hc hg hm (prg_1 hg2 hm2 (qz ha) na) nb) fun σ H Q ⟨F, env, I, h⟩ => ⟨F, env, I, (Fin.bnd h).imp fun s e F1 H1 I1 s1 h1 x rx => by
    cases ed : s.d <;> simp only [ed] at h1 rx <;> first | exact h1.elim | skip
    rename_i n
    split at h1
    · rename_i hb
      refine ⟨n, rx.int, RgOk.of_le (by omega) hb.2 (by omega) hb.1, fun q nq => ?_⟩
      obtain ⟨I2, fr⟩ := I1.newList nq (rep_rg (K := C.K) (mg := C.mg) (F := F1) (n := n))
      exact h1 _ _ I2 (.refl _) _ ⟨q, rfl, fr⟩
    · exact h1.elim⟩
/-! ### zip of two lists or of two tuples -/
def gZipA : List D → Option (List D)
  | [.lst a, .lst b] => some ((a.zip b).map fun p => .tup [p.1, p.2])
  | [.tup a, .tup b] => some ((a.zip b).map fun p => .tup [p.1, p.2])
  | _ => none
section
variable {X : Cx} {C : Cd}
theorem it_zipT {F1 : Hp} {a b : Addr} {xs ys : List V} {ds es : List D} (h : SqT C.K F1 a xs) (r : RepL C.K C.mg F1 ds xs) (h' : SqT C.K F1 b ys) (r' : RepL C.K C.mg F1 es ys) : ItOk C (RZ.ItzT C.K a b) ((ds.zip es).map fun p => .tup [p.1, p.2]) F1 := by
  intro F H σ env i s I
  have hx : SqT C.K H a xs := sameT (s.trans I.fh) h
  have hy : SqT C.K H b ys := sameT (s.trans I.fh) h'
  refine ⟨fun d hd => ?_, fun e => ?_⟩
  · rw [List.getElem?_map] at hd
    cases ec : (ds.zip es)[i]? with
    | none => rw [ec] at hd; cases hd
    | some c =>
      rw [ec] at hd
      cases hd
      obtain ⟨h1, h2⟩ := List.getElem?_zip_eq_some.mp ec
      obtain ⟨x, hx1, rx⟩ := r.get h1
      obtain ⟨y, hy1, ry⟩ := r'.get h2
      refine ⟨⟨xs, ys, x, y, hx, hy, hx1, hy1⟩, fun v H' yl => ?_⟩
      obtain ⟨T, x', y', e1, e2, e3, e4, e5⟩ := yl
      have e4 := e4 xs hx
      have e5 := e5 ys hy
      rw [hx1] at e4
      rw [hy1] at e5
      cases e4
      cases e5
      subst e1 e3
      have sF := I.same (o := .tup [x, y]) e2
      exact ⟨_, I.extAlloc e2, Rep.ofTup upd_same (repCons (rx.mono (s.trans sF)) (repCons (ry.mono (s.trans sF)) repNil))⟩
  · rw [List.length_map, List.length_zip, ← r.len, ← r'.len] at e
    exact ⟨xs, ys, hx, hy, by omega⟩
theorem qi_zipA {a b : Expr} {elts : List Expr} {kk : Nat} {fs : List DE} {p pos tpos : Pos} (ft : Fit X C) (hg : Gl X "zip") (hm : X.mg "zip" = none) (ha : PA X [a, b] (tDA C fs)) (hs : starEach [a, b] X.env = (false, eval a X.env) :: starEach [b] X.env := by rfl) (hpl : (backTo pos (starEach [b] X.env)).any (·.1) = false := by rfl) :
    PI X (.Tuple elts kk tpos) (.Call (.Name "zip" p) [a, b] [] pos) (tDI C (iterG gZipA fs)) := by
  have q := RZ.pi_zipA (tpos := tpos) (elts := elts) (kk := kk) (p := p) hg hm ha hs hpl
  rw [ft.k] at q
  exact PI.weak q fun σ H RR h => t_iter h fun F H env vs ds zs I rv eg k => by
    unfold gZipA at eg
    split at eg
    · cases eg
      obtain ⟨x, y, rfl, rx, ry⟩ := rep2 rv
      obtain ⟨a, xs, rfl, h1, h2⟩ := rx.lst
      obtain ⟨b, ys, rfl, h3, h4⟩ := ry.lst
      exact ⟨a, b, xs, ys, rfl, .inl ⟨.inl (.inl (I.fh _ _ h1)), .inl (.inl (I.fh _ _ h3)), k _ (it_zip (.inl (.inl h1)) h2 (.inl (.inl h3)) h4)⟩⟩
    · cases eg
      obtain ⟨x, y, rfl, rx, ry⟩ := rep2 rv
      obtain ⟨a, xs, rfl, h1, h2⟩ := rx.tup
      obtain ⟨b, ys, rfl, h3, h4⟩ := ry.tup
      exact ⟨a, b, xs, ys, rfl, .inr ⟨sameT I.fh h1, sameT I.fh h3, k _ (it_zipT h1 h2 h3 h4)⟩⟩
    · cases eg
end
theorem qss_never {X : Cx} {C : Cd} {ss : List Stmt} : PSs X ss (tDS C fun _ => .no) := ⟨fun _ _ _ _ _ _ ⟨_, _, _, h⟩ => h.elim⟩
end Dd

namespace Dd
open PySem PySem.Spec PyProof.Rows L2
/-! ### what a function over data comes to: Q if it tells, X if it raises -/
def wR {ε α : Type} (r : R ε α) (Q : α → Prop) (X : Str → ε → Prop) : Prop := match r with
  | .ok a => Q a
  | .er c [] e => X c e
  | .er _ _ _ => False
  | .no => False
section
variable {ε α β : Type} {r : R ε α} {Q Q' : α → Prop} {X X' : Str → ε → Prop}
theorem wR.mono (h : wR r Q X) (q : ∀ a, Q a → Q' a) (x : ∀ c e, X c e → X' c e) : wR r Q' X' := by
  cases r with
  | ok a => exact q _ h
  | er c fs e => cases fs with
    | nil => exact x _ _ h
    | cons _ _ => exact h
  | no => exact h
theorem wR.mon (h : wR r Q X) (q : ∀ a, Q a → Q' a) : wR r Q' X := h.mono q fun _ _ x => x
theorem wR.ok (h : wR r Q fun _ _ => False) : ∃ a, r = .ok a ∧ Q a := by
  cases r with
  | ok a => exact ⟨a, rfl, h⟩
  | er c fs e => cases fs <;> exact h.elim
  | no => exact h.elim
theorem wR_ok {a : α} (h : Q a) : wR (R.ok a : R ε α) Q X := h
theorem wR_eq {a : α} (e : r = .ok a) (h : Q a) : wR r Q X := by rw [e]; exact h
theorem wR_bind {k : α → R ε β} {Q : β → Prop} (h : wR r (fun a => wR (k a) Q X) X) : wR (r.bind k) Q X := by
  cases r with
  | ok a => exact h
  | er c fs e => cases fs with
    | nil => exact h
    | cons _ _ => exact h
  | no => exact h
end
section
variable {env : DEnv} {X : Str → DEnv → Prop}
theorem wS_bind {α : Type} {r : R DEnv (α × DEnv)} {k : α × DEnv → R DEnv Out} {Q : Out → Prop} (h : wR r (fun a => wR (k a) Q X) X) : wR (bindS r k) Q X := by
  cases r with
  | ok a => exact h
  | er c fs e => cases fs with
    | nil => exact h
    | cons _ _ => exact h
  | no => exact h
variable {Q : Sl × DEnv → Prop} {f fa fb fc : DE} {d : D}
theorem w_con (h : Q (.frz d, env)) : wR (conD d env) Q X := h
theorem w_name {i : Nat} (e : env[i]? = some (some (.frz d))) (h : Q (.frz d, env)) : wR (nameD i env) Q X := by
  unfold nameD; rw [e]; exact h
theorem w_nameO {i : Nat} (e : env[i]? = some (some (.own d))) (h : Q (.frz d, env.set i (some (.frz d)))) : wR (nameD i env) Q X := by
  unfold nameD; rw [e]; exact h
theorem w_lift1 {g : D → Option Sl} (h : wR (fa env) (fun p => ∃ z, g p.1.d = some z ∧ Q (z, p.2)) X) : wR (lift1 g fa env) Q X :=
  wR_bind (h.mon fun p ⟨z, e, q⟩ => by simp only [e]; exact q)
theorem w_lift2 {g : D → D → Option Sl} (h : wR (fa env) (fun p => wR (fb p.2) (fun q => ∃ z, g p.1.d q.1.d = some z ∧ Q (z, q.2)) X) X) : wR (lift2 g fa fb env) Q X :=
  wR_bind (h.mon fun p h => wR_bind (h.mon fun q ⟨z, e, q⟩ => by simp only [e]; exact q))
theorem w_bool {Q : Bool × DEnv → Prop} (h : wR (f env) (fun p => ∃ b, p.1.d = .bl b ∧ Q (b, p.2)) X) : wR (boolT f env) Q X :=
  wR_bind (h.mon fun p ⟨b, e, q⟩ => by simp only [e]; exact q)
theorem w_andT {g g' : DT} {Q : Bool × DEnv → Prop} (h : wR (g env) (fun p => if p.1 = true then wR (g' p.2) Q X else Q (false, p.2)) X) : wR (andT g g' env) Q X :=
  wR_bind (h.mon fun p h => by obtain ⟨b, e⟩ := p; cases b <;> (simp only [if_true, if_false, Bool.false_eq_true] at h; exact h))
theorem w_orT {g g' : DT} {Q : Bool × DEnv → Prop} (h : wR (g env) (fun p => if p.1 = true then Q (true, p.2) else wR (g' p.2) Q X) X) : wR (orT g g' env) Q X :=
  wR_bind (h.mon fun p h => by obtain ⟨b, e⟩ := p; cases b <;> (simp only [if_true, if_false, Bool.false_eq_true] at h; exact h))
theorem w_notT {g : DT} {Q : Bool × DEnv → Prop} (h : wR (g env) (fun p => Q (!p.1, p.2)) X) : wR (notT g env) Q X := wR_bind (h.mon fun p h => h)
theorem w_andV (h : wR (fa env) (fun p => ∃ b, p.1.d = .bl b ∧ if b = true then wR (fb p.2) Q X else Q (.frz (.bl false), p.2)) X) : wR (andV fa fb env) Q X :=
  wR_bind (h.mon fun p ⟨b, e, q⟩ => by cases b <;> (simp only [e]; simp only [if_true, if_false, Bool.false_eq_true] at q; exact q))
theorem w_orV (h : wR (fa env) (fun p => ∃ b, p.1.d = .bl b ∧ if b = true then Q (.frz (.bl true), p.2) else wR (fb p.2) Q X) X) : wR (orV fa fb env) Q X :=
  wR_bind (h.mon fun p ⟨b, e, q⟩ => by cases b <;> (simp only [e]; simp only [if_true, if_false, Bool.false_eq_true] at q; exact q))
theorem w_notV (h : wR (fa env) (fun p => ∃ b, p.1.d = .bl b ∧ Q (.frz (.bl (!b)), p.2)) X) : wR (notV fa env) Q X :=
  wR_bind (h.mon fun p ⟨b, e, q⟩ => by simp only [e]; exact q)
theorem w_ifV {c : DT} (h : wR (c env) (fun p => if p.1 = true then wR (fa p.2) Q X else wR (fb p.2) Q X) X) : wR (ifV c fa fb env) Q X :=
  wR_bind (h.mon fun p h => by obtain ⟨b, e⟩ := p; cases b <;> (simp only [if_true, if_false, Bool.false_eq_true] at h; exact h))
theorem w_argsNil {Q : List D × DEnv → Prop} (h : Q ([], env)) : wR (argsD [] env) Q X := h
theorem w_argsCons {fs : List DE} {Q : List D × DEnv → Prop} (h : wR (f env) (fun p => wR (argsD fs p.2) (fun q => Q (p.1.d :: q.1, q.2)) X) X) : wR (argsD (f :: fs) env) Q X :=
  wR_bind (h.mon fun p h => wR_bind (h.mon fun q h => h))
theorem w_lst {fs : List DE} (h : wR (argsD fs env) (fun p => Q (.own (.lst p.1), p.2)) X) : wR (lstD fs env) Q X := wR_bind (h.mon fun p h => h)
theorem w_tup {fs : List DE} (h : wR (argsD fs env) (fun p => Q (.frz (.tup p.1), p.2)) X) : wR (tupD fs env) Q X := wR_bind (h.mon fun p h => h)
theorem w_callG {g : List D → Option Sl} {fs : List DE} (h : wR (argsD fs env) (fun p => ∃ z, g p.1 = some z ∧ Q (z, p.2)) X) : wR (callG g fs env) Q X :=
  wR_bind (h.mon fun p ⟨z, e, q⟩ => by simp only [e]; exact q)
theorem w_call {g : DF} {fs : List DE} (h : wR (argsD fs env) (fun p => wR (g p.1) (fun q => Q (q.1, p.2)) (fun c _ => X c p.2)) X) : wR (callD g fs env) Q X :=
  wR_bind (h.mon fun p h => by
    cases e : g p.1 with
    | ok q => simp only [e] at h ⊢; exact h
    | er c fs z =>
      simp only [e] at h ⊢
      cases fs with
      | nil => exact h
      | cons _ _ => exact h
    | no => simp only [e] at h; exact h.elim)
theorem w_callK {g : DF} {sel : List Src} {dfs : List D} {fs kfs : List DE} (h : wR (argsD fs env) (fun p => wR (argsD kfs p.2) (fun q => wR (g (pick sel p.1 q.1 dfs)) (fun r => Q (r.1, q.2)) (fun c _ => X c q.2)) X) X) : wR (callKD g sel dfs fs kfs env) Q X :=
  wR_bind (h.mon fun p h => wR_bind (h.mon fun q h => by
    cases e : g (pick sel p.1 q.1 dfs) with
    | ok q => simp only [e] at h ⊢; exact h
    | er c fs z =>
      simp only [e] at h ⊢
      cases fs with
      | nil => exact h
      | cons _ _ => exact h
    | no => simp only [e] at h; exact h.elim))
theorem w_callB {g : DF} {i : Nat} {fs : List DE} {s0 : Sl} (e0 : env[i]? = some (some s0)) (h : wR (argsD fs env) (fun p => ∃ s, p.2[i]? = some (some s) ∧ s.mut = true ∧ wR (g (s.d :: p.1)) (fun q => ∃ d, q.2 = [d] ∧ Q (q.1, p.2.set i (some (s.put d)))) (fun _ _ => False)) X) : wR (callBD g i fs env) Q X := by
  unfold callBD
  rw [e0]
  refine wR_bind (h.mon fun p ⟨s, e1, ms, h⟩ => ?_)
  obtain ⟨q, e2, d, e3, h⟩ := h.ok
  obtain ⟨q1, q2⟩ := q
  simp only at e3
  subst e3
  simp only [e1, ms, e2]
  exact h
theorem w_ixN {i : Nat} {s0 : Sl} (e0 : env[i]? = some (some s0)) (h : wR (fb env) (fun q => ∃ s d z, q.2[i]? = some (some s) ∧ s.val = some d ∧ gIx d q.1.d = some z ∧ Q (z, q.2)) X) : wR (ixND i fb env) Q X := by
  unfold ixND
  rw [e0]
  exact wR_bind (h.mon fun q ⟨s, d, z, e1, e2, e3, h⟩ => by simp only [e1, e2, e3]; exact h)
theorem w_peek2 {g : D → D → Option Sl} {i : Nat} {s0 : Sl} (e0 : env[i]? = some (some s0)) (h : wR (fb env) (fun q => ∃ s d z, q.2[i]? = some (some s) ∧ s.val = some d ∧ g d q.1.d = some z ∧ Q (z, q.2)) X) : wR (peek2 g i fb env) Q X := by
  unfold peek2
  rw [e0]
  exact wR_bind (h.mon fun q ⟨s, d, z, e1, e2, e3, h⟩ => by simp only [e1, e2, e3]; exact h)
theorem w_peekC {g : List D → Option Sl} {i : Nat} {s : Sl} {d : D} {z : Sl} (e0 : env[i]? = some (some s)) (e1 : s.val = some d) (e2 : g [d] = some z) (h : Q (z, env)) : wR (peekC g i env) Q X := by
  unfold peekC
  rw [e0]
  simp only [e1, e2]
  exact h
theorem w_partN {Q : Option Int × DEnv → Prop} (h : Q (none, env)) : wR (partN env) Q X := h
theorem w_part {Q : Option Int × DEnv → Prop} (h : wR (f env) (fun p => ∃ i, p.1.d = .int i ∧ Q (some i, p.2)) X) : wR (partD f env) Q X :=
  wR_bind (h.mon fun p ⟨b, e, q⟩ => by simp only [e]; exact q)
theorem w_slice {fl fh : DO} (h : wR (fa env) (fun p => wR (fl p.2) (fun q => wR (fh q.2) (fun r => ∃ z, gSl p.1.d q.1 r.1 = some z ∧ Q (z, r.2)) X) X) X) : wR (sliceD fa fl fh env) Q X :=
  wR_bind (h.mon fun p h => wR_bind (h.mon fun q h => wR_bind (h.mon fun r ⟨z, e, h⟩ => by simp only [e]; exact h)))
theorem w_chain {g g' : D → D → Option Sl} (h : wR (fa env) (fun p => wR (fb p.2) (fun q => ∃ b, g p.1.d q.1.d = some (.frz (.bl b)) ∧ if b = true then wR (fc q.2) (fun r => ∃ b, g' q.1.d r.1.d = some (.frz (.bl b)) ∧ Q (.frz (.bl b), r.2)) X else Q (.frz (.bl false), q.2)) X) X) : wR (chainD g g' fa fb fc env) Q X :=
  wR_bind (h.mon fun p h => wR_bind (h.mon fun q ⟨b, e, h⟩ => by
    cases b with
    | true =>
      simp only [e]
      simp only [if_true] at h
      exact wR_bind (h.mon fun r ⟨b, e, h⟩ => by simp only [e]; exact h)
    | false =>
      simp only [e]
      simp only [if_false, Bool.false_eq_true] at h
      exact h))
theorem w_isT {ts : List String} (h : wR (fa env) (fun p => ∃ b, isiAny p.1.d ts = some b ∧ Q (.frz (.bl b), p.2)) X) : wR (isTD ts fa env) Q X :=
  wR_bind (h.mon fun p ⟨b, e, q⟩ => by simp only [e]; exact q)
theorem w_isE {i : Nat} {sub : Str → Option Bool} {c : Str} {b : Bool} (e0 : env[i]? = some (some (.exn c))) (e1 : sub c = some b) (h : Q (.frz (.bl b), env)) : wR (isED i sub env) Q X := by
  unfold isED
  rw [e0]
  simp only [e1]
  exact h
theorem w_mut {g : List D → List D → Option (Sl × List D)} {i : Nat} {fs : List DE} {s0 : Sl} {ds0 : List D} (e0 : env[i]? = some (some s0)) (m0 : s0.mut = true) (l0 : s0.d = .lst ds0) (h : wR (argsD fs env) (fun p => ∃ s ds r ds', p.2[i]? = some (some s) ∧ s.mut = true ∧ s.d = .lst ds ∧ g ds p.1 = some (r, ds') ∧ Q (r, p.2.set i (some (s.put (.lst ds'))))) X) : wR (mutD g i fs env) Q X := by
  unfold mutD
  rw [e0]
  simp only [m0, l0, isL, Bool.and_self, if_true]
  exact wR_bind (h.mon fun p ⟨s, ds, r, ds', e1, e2, e3, e4, h⟩ => by simp only [e1, e2, e3, e4]; exact h)
/-! statements -/
variable {T : Out → Prop} {g g1 g2 : DS}
theorem w_next (h : T (.nx env)) : wR (nextD env) T X := h
theorem w_brk (h : T (.bk env)) : wR (brkD env) T X := h
theorem w_cont (h : T (.ct env)) : wR (contD env) T X := h
def thenS (k : DEnv → Prop) (T : Out → Prop) : Out → Prop
  | .nx e => k e
  | o => T o
theorem w_seq (h : wR (g1 env) (thenS (fun e => wR (g2 e) T X) T) X) : wR (seqD g1 g2 env) T X := by
  unfold seqD
  cases e : g1 env with
  | ok o => rw [e] at h; cases o <;> exact h
  | er c fs z => rw [e] at h; cases fs <;> exact h
  | no => rw [e] at h; exact h
/-- a cut between two statements -/
theorem w_seqI (I : DEnv → Prop) (h : wR (g1 env) (thenS I T) X) (h2 : ∀ e, I e → wR (g2 e) T X) : wR (seqD g1 g2 env) T X :=
  w_seq (h.mon fun o => by cases o <;> first | exact h2 _ | exact id)
theorem w_expr (h : wR (f env) (fun p => T (.nx p.2)) X) : wR (exprD f env) T X := wS_bind (h.mon fun _ h => h)
theorem w_ret (h : wR (f env) (fun p => T (.rt p.1 p.2)) X) : wR (retD f env) T X := wS_bind (h.mon fun _ h => h)
theorem w_retN (h : T (.rt (.frz .non) env)) : wR (retND env) T X := h
theorem w_retName {i : Nat} {d : D} (e : env[i]? = some (some (.frz d))) (h : T (.rt (.frz d) env)) : wR (retNameD i env) T X := by
  unfold retNameD; rw [e]; exact h
theorem w_retOwn {i : Nat} {d : D} (e : env[i]? = some (some (.own d))) (h : T (.rt (.own d) (env.set i none))) : wR (retNameD i env) T X := by
  unfold retNameD; rw [e]; exact h
theorem w_if {c : DT} (h : wR (c env) (fun p => if p.1 = true then wR (g1 p.2) T X else wR (g2 p.2) T X) X) : wR (ifD c g1 g2 env) T X :=
  wS_bind (h.mon fun p h => by obtain ⟨b, e⟩ := p; cases b <;> (simp only [if_true, if_false, Bool.false_eq_true] at h; exact h))
theorem w_set {i : Nat} (h : wR (f env) (fun p => T (.nx (p.2.set i (some p.1)))) X) : wR (setD i f env) T X := wS_bind (h.mon fun _ h => h)
theorem w_asg {gg : DG} (h : wR (f env) (fun p => ∃ e, gg p.1.d p.2 = some e ∧ T (.nx e)) X) : wR (asgD gg f env) T X := wS_bind (h.mon fun p ⟨e, h1, h⟩ => by simp only [h1]; exact h)
theorem w_aug {gg : D → D → Option Sl} {i : Nat} {d : D} (e : env[i]? = some (some (.frz d))) (h : wR (f env) (fun p => ∃ s, gg d p.1.d = some s ∧ T (.nx (p.2.set i (some s)))) X) : wR (augD gg i f env) T X := by
  unfold augD
  rw [e]
  exact wS_bind (h.mon fun p ⟨s, h1, h⟩ => by simp only [h1]; exact h)
theorem w_par {i j : Nat} {fs : List DE} (h : wR (argsD fs env) (fun p => ∃ a b, p.1 = [a, b] ∧ T (.nx ((p.2.set i (some (.frz a))).set j (some (.frz b))))) X) : wR (parD i j fs env) T X :=
  wS_bind (h.mon fun p ⟨a, b, h1, h⟩ => by simp only [h1]; exact h)
theorem w_setIx {i : Nat} {fe fk : DE} (h : wR (fe env) (fun p => (∃ s0, p.2[i]? = some (some s0)) ∧ wR (fk p.2) (fun q => ∃ s ds k j, q.2[i]? = some (some s) ∧ s.mut = true ∧ s.d = .lst ds ∧ q.1.d = .int k ∧ ixN ds.length k = some j ∧ T (.nx (q.2.set i (some (s.put (.lst (ds.set j p.1.d))))))) X) X) : wR (setIxD i fe fk env) T X :=
  wS_bind (h.mon fun p ⟨⟨s0, e0⟩, h⟩ => by
    simp only [e0]
    exact wS_bind (h.mon fun q ⟨s, ds, k, j, e1, e2, e3, e4, e5, h⟩ => by simp only [e1, e2, e3, e4, e5]; exact h))
theorem w_raise {c : Str} (h : X c env) : wR (raiseD c env) T X := h
theorem w_for {fi : DI} {gg : DG} {gb : DS} (h : wR (fi env) (fun p => wR (forD gg gb p.1 p.2) T X) X) : wR (forS fi gg gb env) T X := wS_bind (h.mon fun _ h => h)
theorem w_iterE {Q : List D × DEnv → Prop} (h : wR (f env) (fun p => ∃ ds, iterOf p.1.d = some ds ∧ Q (ds, p.2)) X) : wR (iterE f env) Q X := wR_bind (h.mon fun p ⟨ds, e, h⟩ => by simp only [e]; exact h)
theorem w_iterG {gi : List D → Option (List D)} {fs : List DE} {Q : List D × DEnv → Prop} (h : wR (argsD fs env) (fun p => ∃ ds, gi p.1 = some ds ∧ Q (ds, p.2)) X) : wR (iterG gi fs env) Q X := wR_bind (h.mon fun p ⟨ds, e, h⟩ => by simp only [e]; exact h)
/-- a loop by an invariant -/
def loopT (I : DEnv → Prop) (T : Out → Prop) : Out → Prop
  | .nx e => I e
  | .ct e => I e
  | .bk e => T (.nx e)
  | .rt s e => T (.rt s e)
theorem w_forD {gg : DG} {gb : DS} {ds : List D} (I : Nat → DEnv → Prop) (h0 : I 0 env) (hs : ∀ (i : Nat) d e, ds[i]? = some d → I i e → ∃ e', gg d e = some e' ∧ wR (gb e') (loopT (I (i + 1)) T) X) (hd : ∀ e, I ds.length e → T (.nx e)) : wR (forD gg gb ds env) T X := by
  have key : ∀ (k : Nat) (e : DEnv), k ≤ ds.length → I k e → wR (forD gg gb (ds.drop k) e) T X := by
    intro k
    generalize hm : ds.length - k = m
    induction m generalizing k with
    | zero =>
      intro e hk hi
      have : k = ds.length := by omega
      subst this
      rw [List.drop_length]
      exact hd e hi
    | succ m ih =>
      intro e hk hi
      have hlt : k < ds.length := by omega
      rw [List.drop_eq_getElem_cons hlt]
      obtain ⟨e', h1, h2⟩ := hs k _ e (List.getElem?_eq_getElem hlt) hi
      unfold forD
      simp only [h1]
      cases eb : gb e' with
      | no => rw [eb] at h2; exact h2.elim
      | er c fs z => rw [eb] at h2; cases fs <;> exact h2
      | ok o =>
        rw [eb] at h2
        cases o with
        | nx z => exact ih (k + 1) (by omega) z hlt h2
        | ct z => exact ih (k + 1) (by omega) z hlt h2
        | bk z => exact h2
        | rt s z => exact h2
  simpa using key 0 env (Nat.zero_le _) h0
theorem w_forNil {gg : DG} {gb : DS} (h : T (.nx env)) : wR (forD gg gb [] env) T X := h
theorem w_forCons {gg : DG} {gb : DS} {d : D} {ds : List D} {e : DEnv} (h1 : gg d env = some e) (h2 : wR (gb e) (loopT (fun e => wR (forD gg gb ds e) T X) T) X) : wR (forD gg gb (d :: ds) env) T X := by
  unfold forD
  simp only [h1]
  cases eb : gb e with
  | no => rw [eb] at h2; exact h2.elim
  | er c fs z => rw [eb] at h2; cases fs <;> exact h2
  | ok o => rw [eb] at h2; cases o <;> exact h2
/-- a comprehension by an invariant: what is made, the slots -/
theorem w_lcD {gg : DG} {tt : DT} {te : DE} {vs : List Nat} {ds : List D} {Q : List D × DEnv → Prop} (I : Nat → List D → DEnv → Prop) (h0 : I 0 [] env)
    (hs : ∀ (i : Nat) d acc e, ds[i]? = some d → I i acc e → ∃ e', gg d (lendE e) = some e' ∧ wR (tt e') (fun p => if p.1 = true then wR (te p.2) (fun q => acc.length < lim ∧ I (i + 1) (acc ++ [q.1.d]) (backE e (wipeE q.2 vs))) (fun _ _ => False) else I (i + 1) acc (backE e (wipeE p.2 vs))) (fun _ _ => False))
    (hd : ∀ acc e, I ds.length acc e → Q (acc, e)) : wR (lcD gg tt te vs ds [] env) Q X := by
  have key : ∀ (k : Nat) (acc : List D) (e : DEnv), k ≤ ds.length → I k acc e → wR (lcD gg tt te vs (ds.drop k) acc e) Q X := by
    intro k
    generalize hm : ds.length - k = m
    induction m generalizing k with
    | zero =>
      intro acc e hk hi
      have : k = ds.length := by omega
      subst this
      rw [List.drop_length]
      exact hd acc e hi
    | succ m ih =>
      intro acc e hk hi
      have hlt : k < ds.length := by omega
      rw [List.drop_eq_getElem_cons hlt]
      obtain ⟨e', h1, h2⟩ := hs k _ acc e (List.getElem?_eq_getElem hlt) hi
      unfold lcD
      simp only [h1]
      obtain ⟨p, hp, h2⟩ := h2.ok
      rw [hp]
      simp only [bind0_ok]
      obtain ⟨b, e3⟩ := p
      cases b with
      | true =>
        simp only [if_true] at h2
        obtain ⟨q, hq, hl, h3⟩ := h2.ok
        simp only [hq, bind0_ok, if_pos hl]
        exact ih (k + 1) (by omega) _ _ hlt h3
      | false =>
        have h2 : I (k + 1) acc (backE e (wipeE e3 vs)) := by simpa using h2
        exact ih (k + 1) (by omega) _ _ hlt h2
  simpa using key 0 [] env (Nat.zero_le _) h0
theorem w_comp {fi : DI} {gg : DG} {tt : DT} {te : DE} {vs zs : List Nat} (h : wR (fi env) (fun p => wR (lcD gg tt te vs p.1 [] (wipeE (frzE p.2 zs) vs)) (fun q => Q (.own (.lst q.1), q.2)) (fun _ _ => False)) X) : wR (compD fi gg tt te vs zs env) Q X :=
  wR_bind (h.mon fun p h => by
    obtain ⟨q, e, h⟩ := h.ok
    simp only [e, bind0_ok]
    exact h)
theorem w_yes {Q : Bool × DEnv → Prop} (h : Q (true, env)) : wR (yesT env) Q X := h
theorem w_try {gb gs : DS} {i : Nat} {cl : Str → Bool} (h : wR (gb env) T (fun c e => cl c = true ∧ wR (gs ((noExn e).set i (some (.exn c)))) (fun o => match o with
    | .nx z => T (.nx (noExn (z.set i none)))
    | .bk z => T (.bk (noExn (z.set i none)))
    | .ct z => T (.ct (noExn (z.set i none)))
    | .rt s z => T (.rt s (noExn z))) (fun _ _ => False))) : wR (tryD gb i cl gs env) T X := by
  unfold tryD
  cases e : gb env with
  | no => rw [e] at h; exact h
  | ok o => rw [e] at h; exact h
  | er c fs z =>
    rw [e] at h
    cases fs with
    | cons _ _ => exact h.elim
    | nil =>
      obtain ⟨hc, h⟩ := h
      simp only [hc, if_true]
      obtain ⟨o, eo, h⟩ := h.ok
      rw [eo]
      cases o <;> exact h
end
theorem thenS_nx {k : DEnv → Prop} {T : Out → Prop} {e : DEnv} (h : k e) : thenS k T (.nx e) := h
theorem thenS_rt {k : DEnv → Prop} {T : Out → Prop} {s : Sl} {e : DEnv} (h : T (.rt s e)) : thenS k T (.rt s e) := h
theorem thenS_bk {k : DEnv → Prop} {T : Out → Prop} {e : DEnv} (h : T (.bk e)) : thenS k T (.bk e) := h
theorem thenS_ct {k : DEnv → Prop} {T : Out → Prop} {e : DEnv} (h : T (.ct e)) : thenS k T (.ct e) := h
theorem loopT_nx {k : DEnv → Prop} {T : Out → Prop} {e : DEnv} (h : k e) : loopT k T (.nx e) := h
theorem loopT_ct {k : DEnv → Prop} {T : Out → Prop} {e : DEnv} (h : k e) : loopT k T (.ct e) := h
theorem loopT_rt {k : DEnv → Prop} {T : Out → Prop} {s : Sl} {e : DEnv} (h : T (.rt s e)) : loopT k T (.rt s e) := h
theorem loopT_bk {k : DEnv → Prop} {T : Out → Prop} {e : DEnv} (h : T (.nx e)) : loopT k T (.bk e) := h
theorem dFrz {d : D} : (Sl.frz d).d = d := rfl
theorem dOwn {d : D} : (Sl.own d).d = d := rfl
theorem dBor {d : D} : (Sl.bor d).d = d := rfl
theorem pOwn {d e : D} : (Sl.own d).put e = .own e := rfl
theorem pBor {d e : D} : (Sl.bor d).put e = .bor e := rfl
theorem t_ite {p : Prop} [Decidable p] {A B : Prop} (h1 : p → A) (h2 : ¬ p → B) : if decide p = true then A else B := by
  by_cases h : p
  · rw [if_pos (decide_eq_true h)]; exact h1 h
  · rw [if_neg (fun z => h (of_decide_eq_true z))]; exact h2 h
theorem t_iteN {p : Prop} [Decidable p] {A B : Prop} (h1 : ¬ p → A) (h2 : p → B) : if (!decide p) = true then A else B := by
  by_cases h : p
  · rw [decide_eq_true h, if_neg (by decide)]; exact h2 h
  · rw [decide_eq_false h, if_pos (by decide)]; exact h1 h
/-! operations on ints -/
theorem gMod_ok {i j : Int} (h : 0 < j) : gMod (.int i) (.int j) = some (.frz (.int (i % j))) := by
  show (if decide (0 < j) = true then _ else _) = _
  rw [if_pos (decide_eq_true h)]
theorem gDiv_ok {i j : Int} (h : 0 < j) (h2 : j < 2 ^ 100) : gDiv (.int i) (.int j) = some (.frz (.int (i / j))) := by
  have hl : j.natAbs.log2 < 9000 := Nat.lt_of_lt_of_le (PySem.Flt.log2_lt_of (by decide) (show j.natAbs < 2 ^ 100 by omega)) (by decide)
  show (if divOk j = true then _ else _) = _
  rw [if_pos (by unfold divOk; rw [decide_eq_true h, decide_eq_true hl]; rfl)]
theorem gMul_l {i j : Int} (h : -18446744073709551616 < i) (h2 : i < 18446744073709551616) : gMul (.int i) (.int j) = some (.frz (.int (i * j))) := by
  show (if mulOk i j = true then _ else _) = _
  rw [if_pos (by unfold mulOk; rw [Bool.or_eq_true]; exact .inl (decide_eq_true (.inl ⟨h, h2⟩)))]
theorem gMul_r {i j : Int} (h : -18446744073709551616 < j) (h2 : j < 18446744073709551616) : gMul (.int i) (.int j) = some (.frz (.int (i * j))) := by
  show (if mulOk i j = true then _ else _) = _
  rw [if_pos (by unfold mulOk; rw [Bool.or_eq_true]; exact .inl (decide_eq_true (.inr ⟨h, h2⟩)))]
theorem gPow_ok {i j : Int} (h : 0 ≤ j) (h2 : j ≤ 1000000) (h3 : i.natAbs < 18446744073709551616) : gPow (.int i) (.int j) = some (.frz (.int (i ^ j.toNat))) := by
  show (if powOk i j = true then _ else _) = _
  rw [if_pos (by unfold powOk; rw [decide_eq_true h, decide_eq_true h2, decide_eq_true (show i.natAbs < 2 ^ 64 from h3)]; rfl)]
theorem gAdd_int {i j : Int} : gAdd (.int i) (.int j) = some (.frz (.int (i + j))) := rfl
theorem gSub_int {i j : Int} : gSub (.int i) (.int j) = some (.frz (.int (i - j))) := rfl
theorem gLt_int {i j : Int} : gLt (.int i) (.int j) = some (.frz (.bl (decide (i < j)))) := rfl
theorem gLe_int {i j : Int} : gLe (.int i) (.int j) = some (.frz (.bl (decide (i ≤ j)))) := rfl
theorem gGt_int {i j : Int} : gGt (.int i) (.int j) = some (.frz (.bl (decide (j < i)))) := rfl
theorem gGe_int {i j : Int} : gGe (.int i) (.int j) = some (.frz (.bl (decide (j ≤ i)))) := rfl
theorem gR1_ok {j : Int} (h : -(2 ^ 62) ≤ j) (h2 : j < 2 ^ 62) : gR1 [.int j] = some (rangeL 0 j.toNat) := if_pos ⟨h, h2⟩
theorem gR2_ok {i j : Int} (h : -(2 ^ 62) ≤ i) (h2 : i < 2 ^ 62) (h3 : -(2 ^ 62) ≤ j) (h4 : j < 2 ^ 62) : gR2 [.int i, .int j] = some (rangeL i (j - i).toNat) := if_pos ⟨h, h2, h3, h4⟩
theorem gAdd_str {a b : Str} (h : a.length + b.length ≤ 16000000) : gAdd (.str a) (.str b) = some (.frz (.str (a ++ b))) := if_pos h
theorem gAdd_lst {a b : List D} (h : a.length + b.length ≤ 16000000) : gAdd (.lst a) (.lst b) = some (.own (.lst (a ++ b))) := if_pos h
theorem gSl_str {z : Str} {l u : Option Int} (h : z.length ≤ 16000000) : gSl (.str z) l u = some (.frz (.str (cutS z l u))) := if_pos h
theorem rangeL_get {lo : Int} {n i : Nat} {d : D} (h : (rangeL lo n)[i]? = some d) : i < n ∧ d = .int (lo + i) := by
  unfold rangeL at h
  rw [List.getElem?_map] at h
  cases e : (List.range n)[i]? with
  | none => rw [e] at h; cases h
  | some c =>
    rw [e] at h
    have hi : i < n := by
      have := (List.getElem?_eq_some_iff.mp e).1
      simpa using this
    rw [List.getElem?_range hi] at e
    cases e
    cases h
    exact ⟨hi, rfl⟩
theorem rangeL_len {lo : Int} {n : Nat} : (rangeL lo n).length = n := by simp [rangeL]
theorem gAppend_ok {ds : List D} {e : D} (h : ds.length < 16000000) : gAppend ds [e] = some (.frz .non, ds ++ [e]) := if_pos h
theorem gIx_lst {ds : List D} {r : Int} (h0 : 0 ≤ r) (h1 : r < ds.length) : ∃ d, d ∈ ds ∧ ds[r.toNat]? = some d ∧ gIx (.lst ds) (.int r) = some (.frz d) := by
  have h2 : r.toNat < ds.length := by omega
  refine ⟨ds[r.toNat], List.getElem_mem h2, List.getElem?_eq_getElem h2, ?_⟩
  have : atI ds r = some ds[r.toNat] := by
    unfold atI ixN
    rw [if_pos h0, if_pos h1]
    simp [h2]
  show (atI ds r).map Sl.frz = _
  rw [this]
  rfl
theorem gIx_tup {ds : List D} {r : Int} (h0 : 0 ≤ r) (h1 : r < ds.length) : ∃ d, d ∈ ds ∧ ds[r.toNat]? = some d ∧ gIx (.tup ds) (.int r) = some (.frz d) := by
  have h2 : r.toNat < ds.length := by omega
  refine ⟨ds[r.toNat], List.getElem_mem h2, List.getElem?_eq_getElem h2, ?_⟩
  have : atI ds r = some ds[r.toNat] := by
    unfold atI ixN
    rw [if_pos h0, if_pos h1]
    simp [h2]
  show (atI ds r).map Sl.frz = _
  rw [this]
  rfl
theorem gIx_scr {ns : List Int} {r : Int} (h0 : 0 ≤ r) (h1 : r < ns.length) : ∃ d, d ∈ ns ∧ ns[r.toNat]? = some d ∧ gIx (.scr ns) (.int r) = some (.frz (.int d)) := by
  have h2 : r.toNat < ns.length := by omega
  refine ⟨ns[r.toNat], List.getElem_mem h2, List.getElem?_eq_getElem h2, ?_⟩
  have : atI ns r = some ns[r.toNat] := by
    unfold atI ixN
    rw [if_pos h0, if_pos h1]
    simp [h2]
  show (atI ns r).map (fun i => Sl.frz (.int i)) = _
  rw [this]
  rfl
theorem gIx_str {z : Str} {r : Int} (hz : z.length ≤ lim) (h0 : 0 ≤ r) (h1 : r < z.length) : ∃ c, c ∈ z.cps.toList ∧ gIx (.str z) (.int r) = some (.frz (.str ⟨#[c]⟩)) := by
  have h2 : r.toNat < z.cps.toList.length := by
    show _ < z.cps.size
    have : (z.length : Int) = z.cps.size := rfl
    omega
  refine ⟨z.cps.toList[r.toNat], List.getElem_mem h2, ?_⟩
  have : atI z.cps.toList r = some z.cps.toList[r.toNat] := by
    unfold atI ixN
    rw [if_pos h0, if_pos (by have : (z.length : Int) = z.cps.size := rfl; simp; omega)]
    simp at h2
    simp [h2]
  show (if z.length ≤ lim then (atI z.cps.toList r).map (fun c => Sl.frz (.str ⟨#[c]⟩)) else none) = _
  rw [if_pos hz, this]
  rfl
/-- of a def -/
theorem w_body {n : Nat} {g : DS} {ds : List D} {Q : Sl × List D → Prop} {X : Str → List D → Prop} (h : wR (g (env0 n ds)) (fun o => match o with
    | .rt s _ => Q (s, [])
    | .nx _ => Q (.frz .non, [])
    | _ => False) (fun c _ => X c [])) : wR (bodyF n g ds) Q X := by
  unfold bodyF
  cases e : g (env0 n ds) with
  | no => rw [e] at h; exact h
  | er c fs z => rw [e] at h; cases fs <;> exact h
  | ok o => rw [e] at h; cases o <;> exact h
theorem w_bodyB {n : Nat} {g : DS} {ds : List D} {Q : Sl × List D → Prop} {X : Str → List D → Prop} (h : wR (g (envB n ds)) (fun o => match o with
    | .rt s e => ∃ d, e[0]? = some (some (.bor d)) ∧ Q (s, [d])
    | .nx e => ∃ d, e[0]? = some (some (.bor d)) ∧ Q (.frz .non, [d])
    | _ => False) (fun _ _ => False)) : wR (bodyB n g ds) Q X := by
  unfold bodyB
  obtain ⟨o, e, h⟩ := h.ok
  rw [e]
  cases o with
  | rt s z => obtain ⟨d, e1, h⟩ := h; simp only [outB, e1]; exact h
  | nx z => obtain ⟨d, e1, h⟩ := h; simp only [outB, e1]; exact h
  | bk z => exact h.elim
  | ct z => exact h.elim
end Dd

namespace Dd
open PySem PySem.Spec PyProof.Rows L2
/-! ### data that == compares -/
def Pl (n : Nat) (d : D) : Prop := ∃ p, toPy d = some p ∧ p.canLay0 = true ∧ p.depth ≤ n
def PlL (n : Nat) (ds : List D) : Prop := ∃ ps, toPyL ds = some ps ∧ PyData.canLayAll0 ps = true ∧ PyData.depthAll ps ≤ n
theorem plL {n : Nat} : ∀ {ds : List D}, (∀ d ∈ ds, Pl n d) → PlL n ds
  | [], _ => ⟨[], by unfold toPyL; rfl, by unfold PyData.canLayAll0; rfl, by unfold PyData.depthAll; omega⟩
  | d :: ds, h => by
    obtain ⟨p, e1, c1, d1⟩ := h d (by simp)
    obtain ⟨ps, e2, c2, d2⟩ := plL (ds := ds) fun x hx => h x (by simp [hx])
    refine ⟨p :: ps, by unfold toPyL; rw [e1, e2], by unfold PyData.canLayAll0; rw [c1, c2]; rfl, by unfold PyData.depthAll; omega⟩
theorem Pl.non {n : Nat} : Pl n .non := ⟨_, by unfold toPy; rfl, by unfold PyData.canLay0; rfl, by unfold PyData.depth; omega⟩
theorem Pl.int {n : Nat} {i : Int} : Pl n (.int i) := ⟨_, by unfold toPy; rfl, by unfold PyData.canLay0; rfl, by unfold PyData.depth; omega⟩
theorem Pl.bl {n : Nat} {i : Bool} : Pl n (.bl i) := ⟨_, by unfold toPy; rfl, by unfold PyData.canLay0; rfl, by unfold PyData.depth; omega⟩
theorem Pl.str {n : Nat} {s : Str} (h : PyData.strOk s = true) : Pl n (.str s) := ⟨_, by unfold toPy; rfl, by unfold PyData.canLay0; exact h, by unfold PyData.depth; omega⟩
theorem Pl.lst {n : Nat} {ds : List D} (h : ∀ d ∈ ds, Pl n d) : Pl (n + 1) (.lst ds) := by
  obtain ⟨ps, e, c, d⟩ := plL h
  exact ⟨_, by unfold toPy; rw [e]; rfl, by unfold PyData.canLay0; exact c, by unfold PyData.depth; omega⟩
theorem Pl.tup {n : Nat} {ds : List D} (h : ∀ d ∈ ds, Pl n d) : Pl (n + 1) (.tup ds) := by
  obtain ⟨ps, e, c, d⟩ := plL h
  exact ⟨_, by unfold toPy; rw [e]; rfl, by unfold PyData.canLay0; exact c, by unfold PyData.depth; omega⟩
theorem Pl.mono {n m : Nat} {d : D} (h : Pl n d) (hn : n ≤ m) : Pl m d := by
  obtain ⟨p, a, b, c⟩ := h
  exact ⟨p, a, b, Nat.le_trans c hn⟩
theorem Pl.plain {n : Nat} {d : D} (h : Pl n d) (hn : n ≤ 64) : plain d = true := by
  obtain ⟨p, a, b, c⟩ := h
  unfold Dd.plain
  rw [a]
  show (p.canLay0 && decide (p.depth ≤ 64)) = true
  rw [b, decide_eq_true (Nat.le_trans c hn)]
  rfl
theorem pyEq_refl {d : D} (h : plain d = true) : pyEq d d = true := by
  obtain ⟨p, e, s⟩ := plain_of h
  unfold pyEq
  rw [e]
  exact SeqAt.eqv_refl p (SeqAt.canLay_of_shaped s)
theorem gEq_of {neg : Bool} {d e : D} (h : plain d = true) (h2 : plain e = true) : gEq neg d e = some (.frz (.bl (neg != pyEq d e))) := by
  unfold gEq
  rw [h, h2]
  rfl
theorem gEq_self {neg : Bool} {d : D} (h : plain d = true) : gEq neg d d = some (.frz (.bl (!neg))) := by
  rw [gEq_of h h, pyEq_refl h]
  cases neg <;> rfl
theorem pyEq_int {i j : Int} : pyEq (.int i) (.int j) = decide (i = j) := by
  unfold pyEq toPy PyData.eqv
  exact Bool.eq_iff_iff.mpr (by simp)
theorem gEq_int {neg : Bool} {i j : Int} : gEq neg (.int i) (.int j) = some (.frz (.bl (neg != decide (i = j)))) := by
  rw [gEq_of ((Pl.int (n := 0)).plain (by decide)) ((Pl.int (n := 0)).plain (by decide)), pyEq_int]
end Dd
namespace Dd
open PySem PySem.Spec PyProof.Rows L2
theorem strOk_iff {s : Str} : PyData.strOk s = true ↔ ∀ c ∈ s.cps.toList, c < 0x110000 := by
  unfold PyData.strOk
  rw [← Array.all_toList, List.all_eq_true]
  exact ⟨fun h c hc => of_decide_eq_true (h c hc), fun h c hc => decide_eq_true (h c hc)⟩
theorem strOk_app {a b : Str} (ha : PyData.strOk a = true) (hb : PyData.strOk b = true) : PyData.strOk (a ++ b) = true := by
  rw [strOk_iff] at ha hb ⊢
  intro c hc
  have : c ∈ a.cps.toList ++ b.cps.toList := by
    have e : (a ++ b).cps = a.cps ++ b.cps := rfl
    rw [e] at hc
    simpa using hc
  rcases List.mem_append.mp this with h | h
  · exact ha c h
  · exact hb c h
theorem strOk_cut {a : Str} {l u : Option Int} (ha : PyData.strOk a = true) : PyData.strOk (cutS a l u) = true := by
  rw [strOk_iff] at ha ⊢
  intro c hc
  unfold cutS at hc
  have h2 := List.mem_of_mem_take (by simpa using hc)
  exact ha c (List.mem_of_mem_drop h2)
theorem strOk_one {a : Str} {c : Nat} (ha : PyData.strOk a = true) (h : c ∈ a.cps.toList) : PyData.strOk ⟨#[c]⟩ = true := by
  rw [strOk_iff] at ha ⊢
  intro x hx
  have : x = c := by simpa using hx
  rw [this]
  exact ha c h
theorem gEq_nil {neg : Bool} {ds : List D} (h : plain (.lst ds) = true) : gEq neg (.lst ds) (.lst []) = some (.frz (.bl (neg != decide (ds = [])))) := by
  rw [gEq_of h (by decide +kernel)]
  have : pyEq (.lst ds) (.lst []) = decide (ds = []) := by
    obtain ⟨p, e, s⟩ := plain_of h
    cases ds with
    | nil => exact pyEq_refl h
    | cons d ds =>
      unfold pyEq
      rw [e]
      unfold toPy at e
      cases e2 : toPyL (d :: ds) with
      | none => rw [e2] at e; cases e
      | some ps =>
        rw [e2] at e
        cases e
        unfold toPyL at e2
        cases e3 : toPy d <;> cases e4 : toPyL ds <;> rw [e3, e4] at e2 <;> cases e2
        rfl
  rw [this]
theorem t_iteX {p : Prop} [Decidable p] {A B : Prop} (h1 : ¬ p → A) (h2 : p → B) : if (true != decide p) = true then A else B := by
  by_cases h : p
  · rw [decide_eq_true h, if_neg (by decide)]; exact h2 h
  · rw [decide_eq_false h, if_pos (by decide)]; exact h1 h
theorem t_iteY {p : Prop} [Decidable p] {A B : Prop} (h1 : p → A) (h2 : ¬ p → B) : if (false != decide p) = true then A else B := by
  by_cases h : p
  · rw [decide_eq_true h, if_pos (by decide)]; exact h1 h
  · rw [decide_eq_false h, if_neg (by decide)]; exact h2 h
theorem iteNT {A B : Prop} (h : B) : if (!true) = true then A else B := h
theorem iteNF {A B : Prop} (h : A) : if (!false) = true then A else B := h
theorem iteXT {p : Prop} [Decidable p] {A B : Prop} (hp : p) (h : B) : if (true != decide p) = true then A else B := t_iteX (fun n => absurd hp n) fun _ => h
theorem iteXF {p : Prop} [Decidable p] {A B : Prop} (hp : ¬ p) (h : A) : if (true != decide p) = true then A else B := t_iteX (fun _ => h) fun n => absurd n hp
theorem iteYT {p : Prop} [Decidable p] {A B : Prop} (hp : p) (h : A) : if (false != decide p) = true then A else B := t_iteY (fun _ => h) fun n => absurd hp n
theorem iteYF {p : Prop} [Decidable p] {A B : Prop} (hp : ¬ p) (h : B) : if (false != decide p) = true then A else B := t_iteY (fun n => absurd n hp) fun _ => h
theorem gIsi_T {a : List D} (h : gIsi a = some (.frz (.bl true))) : gIsi a = some (.frz (.bl true)) := h
theorem gIsi_F {a : List D} (h : gIsi a = some (.frz (.bl false))) : gIsi a = some (.frz (.bl false)) := h
end Dd

namespace Dd
open PySem PySem.Spec PyProof.Rows L2
/-! ### what is asked of a name that stays its owner's -/
def CaOkS (C : Cd) (r : List V → Hp → VK → Prop) (g : List D → Option Sl) : Prop := ∀ F H σ env v (t : Sl) d s (Q : VK), In C F H σ env → SlOk C F H t v → t.val = some d → g [d] = some s →
  (∀ v F' H', In C F' H' σ env → Same F F' → Res C F' H' env σ s v → Q v H') → r [v] H Q
def gIsi1 (t : String) : List D → Option Sl
  | [d] => gIsi [d, .ty t]
  | _ => none
section
variable {X : Cx} {C : Cd}
theorem ok_listS : CaOkS C (rListA C.K) gList := by
  intro F H σ env v t d s Q I o ev hg k
  have key : ∀ (p : Addr) (e : D), some e = some d → Own C.K C.mg F H e p → rListA C.K [.ref p] H Q := fun p e h o => by
    cases h
    cases d <;> first | exact o.elim | (cases hg; done) | skip
    obtain ⟨xs, h1, h2⟩ := o
    cases hg
    refine ⟨p, xs, rfl, .inl (.inl (.inl h1)), fun l nl => ?_⟩
    obtain ⟨I2, fr⟩ := I.newList nl h2
    exact k _ _ _ I2 (.refl _) ⟨l, rfl, fr⟩
  cases t with
  | frz e =>
    cases ev
    exact ok_list F H σ env [v] [d] s Q I (repCons o repNil) hg k
  | own e =>
    obtain ⟨p, rfl, _, _, o⟩ := o
    exact key p e ev o
  | bor e =>
    obtain ⟨p, rfl, _, _, o⟩ := o
    exact key p e ev o
  | exn c => cases ev
theorem peek_of {i : Nat} {g : List D → Option Sl} {σ : L2.St} {H : Hp} {Q : VK} {F : Hp} {env : DEnv} (I : In C F H σ env) (h : Fin C F σ (peekC g i env) fun s e F' H' => ∀ v, Res C F' H' e σ s v → Q v H') :
    ∃ t d s v, env[i]? = some (some t) ∧ t.val = some d ∧ g [d] = some s ∧ σ[i]? = some (some v) ∧ SlOk C F H t v ∧ ∀ v F' H', In C F' H' σ env → Same F F' → Res C F' H' env σ s v → Q v H' := by
  unfold peekC at h
  cases ei : env[i]? with
  | none => rw [ei] at h; exact h.elim
  | some z =>
    cases z with
    | none => rw [ei] at h; exact h.elim
    | some t =>
      rw [ei] at h
      simp only at h
      cases ev : t.val with
      | none => simp only [ev] at h; exact h.elim
      | some d =>
        simp only [ev] at h
        obtain ⟨v, hv, rv⟩ := I.sl i t ei
        cases eg : g [d] with
        | none => simp only [eg] at h; exact h.elim
        | some s => simp only [eg] at h; exact ⟨t, d, s, v, rfl, ev, eg, hv, rv, fun w F' H' I' s' r' => h F' H' I' s' w r'⟩
theorem qe_peekT {e : Expr} {x : Str} {T : String} {p pos : Pos} {i : Nat} {r : List V → Hp → VK → Prop} {g : List D → Option Sl} (hc : CallR X (.type T) r) (ok : CaOkS C r g) (hg : Gl X x) (hm : X.mg x = none) (hv : bootBuiltins x = some (.type T)) (ha : PE X e (tVar i)) (hn : x ≠ "__name__" := by decide) (hdb : (x == ("__debug__" : Str)) = false := by decide)
    (hx : starEach [e] X.env = (false, eval e X.env) :: starEach [] X.env := by rfl) (hpl : (backTo pos (starEach [] X.env)).any (·.1) = false := by rfl) : PE X (.Call (.Name x p) [e] [] pos) (tD C (peekC g i)) :=
  PE.weak (pe_callTy hc hg hm hv (pa_cons ha pa_nil hx) hn hdb hx hpl) fun σ H Q ⟨F, env, I, h⟩ => by
    obtain ⟨t, d, s, v, _, ev, eg, hv, o, k⟩ := peek_of I h
    exact ⟨v, hv, ok F H σ env v t d s Q I o ev eg k⟩
theorem qe_isP {e : Expr} {y : Str} {T : String} {p p2 pos : Pos} {i : Nat} (ft : Fit X C) (hg : Gl X "isinstance") (hm : X.mg "isinstance" = none) (hg2 : Gl X y) (hm2 : X.mg y = none) (hv2 : bootBuiltins y = some (.type T)) (ha : PE X e (tVar i)) (hn : y ≠ "__name__" := by decide) (hdb : (y == ("__debug__" : Str)) = false := by decide)
    (hx : starEach [e, .Name y p2] X.env = (false, eval e X.env) :: starEach [.Name y p2] X.env := by rfl) (hx2 : starEach [.Name y p2] X.env = (false, eval (.Name y p2) X.env) :: starEach [] X.env := by rfl) (hpl : (backTo pos (starEach [.Name y p2] X.env)).any (·.1) = false := by rfl) : PE X (.Call (.Name "isinstance" p) [e, .Name y p2] [] pos) (tD C (peekC (gIsi1 T) i)) :=
  PE.weak (pe_callB (ca_isi ft) hg hm (by decide +kernel) (pa_cons ha (pa_cons (pe_bltn (v := .ty T) hg2 hm2 hv2 rfl hn hdb) pa_nil hx2) hx) (by decide) (by decide) hx hpl) fun σ H Q ⟨F, env, I, h⟩ => by
    obtain ⟨t, d, s, v, ei, ev, eg, hv, o, k⟩ := peek_of I h
    obtain ⟨v', hv', rv⟩ := I.now ei ev
    cases hv.symm.trans hv'
    refine ⟨v, hv, ?_⟩
    unfold gIsi1 gIsi at eg
    simp only at eg
    cases e1 : isiB d T with
    | none => rw [e1] at eg; cases eg
    | some b =>
      rw [e1] at eg
      cases eg
      obtain ⟨u, h1, h2⟩ := isi_of rv e1
      exact ⟨v, .ty T, u, .type T, b, rfl, .ty T, h1, h2, k _ F H I (.refl _) resBl⟩
end
/-! ### sorted(set(a list of ints)) -/
abbrev noSet (w : World) : Obj := { cls := .type "set", dict := none, data := .set #[] 0 (.fresh 0 0 (!w.params.followText "set-order")) }
section
variable {P : Program} {w : World} {A : Around} {E : Value → Shared → Prop} {s : Shared}
set_option maxRecDepth 100000 in
set_option maxHeartbeats 3200000 in
theorem setOfL {l : Addr} {its : Array Value} (ns : List Int) {Q : Value → Shared → Prop} (calm : A.handled = none) (hl : s.heap.IsList l its) (hi : IntsAre its.toList ns) (few : ns.length + 1 < scanBound)
    (k : ∀ (g : Heap) (tk c : Nat), SetR w g s.heap.objs.size (fun j => decide (j ∈ ns)) c → c ≤ ns.length → (∀ b o, s.heap.get? b = some o → g.get? b = some o) → Q (.ref s.heap.objs.size) { s with heap := g, toks := tk }) :
    wpAny (model P w) A (call (.type "set") [.ref l]) Q E s := by
  have size : its.size = ns.length := (Array.length_toList (xs := its)).symm.trans (IntsAre.length hi)
  have ⟨c0, tl0, mro0⟩ := F.called_set.mro
  have t1 := F.called_set.made
  have t2 := F.called_set.sub
  have t3 := F.called_set.notType
  have t4 := F.called_set.canCreate
  have t5 := F.typeCall_set_1 (.ref l)
  refine wpAny_call (codeAny_of_tree (show wpAny _ _ (callAny (.type "set") _) _ _ _ from wpAny_pure ⟨Code.quiet_builtin _ (by decide +kernel), codeAny_builtin F.entry_type_call ?_⟩))
  rw [Around.under_plain (weight_type_call_type "set" [.ref l] []) rfl]
  repeat any_goals first | assumption | wp_step
  refine codeAny_mono (code_set_led1 (.ref l) (E := E) (Q₁ := fun x z => x = .ref s.heap.objs.size ∧ z = { s with heap := s.heap.push (noSet w) }) ⟨rfl, rfl⟩) fun r z hr => ?_
  rcases r with e | fl
  · exact hr
  cases fl <;> first | exact hr.elim | skip
  obtain ⟨rfl, rfl⟩ := hr
  have atS : (s.heap.push (noSet w)).get? s.heap.objs.size = some (noSet w) := Heap.get?_push_size _ rfl
  have tyS : Shared.TypeIs { s with heap := s.heap.push (noSet w) } (.ref s.heap.objs.size) "set" := ⟨_, atS, rfl⟩
  have i1 := F.called_set.init.lookup
  have i2 := F.called_set.init.bind (.ref s.heap.objs.size)
  repeat any_goals first | assumption | wp_step
  refine codeAny_mono (codeAny_call_builtin (R := wants (fun r z => r = .none ∧ ∃ g tk c, z = { s with heap := g, toks := tk } ∧ SetR w g s.heap.objs.size (fun j => decide (j ∈ ns)) c ∧ c ≤ ns.length ∧ ∀ b o, s.heap.get? b = some o → g.get? b = some o) E) F.called_set.init.plain F.entry_set_init (check_set_init_1 tyS ?_)) fun r z hr => ?_
  · have ⟨ob, hob, hcls, nl, hdat⟩ := hl
    have atL : l < s.heap.objs.size := Heap.lt_size hob
    have hl1 : (s.heap.push (noSet w)).IsList l its := ⟨ob, Heap.get?_push_of_some _ hob, hcls, nl, hdat⟩
    obtain ⟨ocls, odict, odata, oslots⟩ := ob
    simp only at hcls hdat
    subst hcls hdat
    have hob1 : (s.heap.push (noSet w)).get? l = some { cls := .type "list", dict := odict, data := .seq its nl, slots := oslots } := Heap.get?_push_of_some _ hob
    have s1 := F.sub_list_set
    have s2 := F.sub_list_frozenset
    have s3 : (Value.type "list" == Value.type "dict") = false := by decide
    unfold Builtin.«set.__init__» noKeywords Builtin.Frozenset.updateFrom
    generalize ePI : pyIter = PI
    wp_walk
    subst ePI
    have grown1 : (s.heap.push (noSet w)).objs.size = s.heap.objs.size + 1 := Heap.size_push ..
    have offL : l ≠ (s.heap.push (noSet w)).objs.size := by rw [grown1]; exact Nat.ne_of_lt (Nat.lt_succ_of_lt atL)
    have offS : s.heap.objs.size ∉ [(s.heap.push (noSet w)).objs.size, l] := by
      rw [grown1]
      intro hm
      simp only [List.mem_cons, List.not_mem_nil, or_false] at hm
      rcases hm with h | h
      · exact absurd h (Nat.ne_of_lt (Nat.lt_succ_self _))
      · exact absurd h (Nat.ne_of_gt atL)
    have vals : ∀ (i : Nat) (v : Value), its[i]? = some v → ∃ k t, ns[i]? = some k ∧ v = .int k t := fun i v hv => by
      have hlt : i < ns.length := size ▸ (Array.getElem?_eq_some_iff.mp hv).1
      obtain ⟨t, e⟩ := IntsAre.int_at hi i v (by rw [Array.getElem?_toList]; exact hv)
      exact ⟨ns[i], t, List.getElem?_eq_getElem hlt, by rw [e]; simp [List.getD_eq_getElem?_getD, List.getElem?_eq_getElem hlt]⟩
    refine wpAny_pyIter_list hl1 (wpAny_bind (wpAny_runValue ?_))
    refine set_update_ints ((Walks.list (show A.in1.in1.in1.handled = none by simp [calm]) _ l offL its).toS) s.heap.objs.size offS ns size few vals _ 0 _ rfl (Nat.zero_le _) ⟨⟨_, Heap.get?_push_size _ rfl, rfl, rfl⟩, hl1.push _⟩ ⟨0, Nat.le_refl 0, setR_new_at (Heap.get?_push_of_some _ atS)⟩ ?_
    rintro ⟨g, g2, dr, tk, os⟩ c mv hc hS
    have m1 : g2 = s.gens := mv.gens
    have m2 : dr = s.drawn := mv.drawn
    have m3 : os = s.os := mv.os
    subst m1 m2 m3
    show wpAny _ _ _ _ _ _
    refine wpAny_pure (show wpAny _ _ (ret Value.none) _ _ _ from wpAny_pure ⟨rfl, g, tk, c, rfl, hS, size ▸ hc, fun b o e => ?_⟩)
    have hb : b < s.heap.objs.size := Heap.lt_size e
    refine mv.heap b o (fun hm => ?_) (Heap.get?_push_of_some _ (Heap.get?_push_of_some _ e))
    rw [grown1] at hm
    simp only [List.mem_cons, List.not_mem_nil, or_false] at hm
    rcases hm with h | h
    · exact absurd h (Nat.ne_of_lt hb)
    · exact absurd h (Nat.ne_of_lt (Nat.lt_succ_of_lt hb))
  · rcases r with e | fl
    · exact hr
    cases fl <;> first | exact hr.elim | skip
    obtain ⟨rfl, g, tk, c, rfl, hS, hc, keep⟩ := hr
    repeat any_goals first | assumption | wp_step
    exact k _ _ _ hS hc keep
end
def rSetL (K : PySem.W.Frag) (w : World) : List V → Hp → VK → Prop := fun xs H Q => ∃ (l : Addr) (ns : List Int), xs = [.ref l] ∧ SqL K H l (ns.map V.int) ∧ ns.length < 64 ∧
  ∀ (p : Addr) (c : Nat), c ≤ ns.length → H p = none → Q (.ref p) (upd H p (SetO w p (fun j => decide (j ∈ ns)) c))
theorem cr_setL {X : Cx} (hc : X.calm = true) : CallR X (.type "set") (rSetL X.K X.w) := by
  intro pins s σ H xs us Q I r h
  obtain ⟨l, ns, rfl, hs, few, q⟩ := h
  rw [Vals.ref1 r]
  obtain ⟨its, rv, pl, hz⟩ := I.list hs
  refine setOfL ns (I.ok.hd hc) (show s.heap.IsList l its.toArray from pl.isList) (show IntsAre its.toArray.toList ns from ints_of_vals rv) (by unfold scanBound; omega) fun g tk c R hcn keep => ?_
  exact ⟨.ref _, upd H s.heap.objs.size (SetO X.w s.heap.objs.size (fun j => decide (j ∈ ns)) c), I.laid (t' := tk) keep (Nat.le_refl _) (setO_new R), rfl, q _ c hcn (I.hok.fresh (Nat.le_refl _))⟩
/-! each once, ascending -/
def insI (k : Int) : List Int → List Int
  | [] => [k]
  | a :: r => if k < a then k :: a :: r else if k = a then a :: r else a :: insI k r
def sset (ns : List Int) : List Int := ns.foldr insI []
theorem insI_mem {k x : Int} : ∀ {l : List Int}, x ∈ insI k l ↔ x = k ∨ x ∈ l
  | [] => by simp [insI]
  | a :: r => by
    unfold insI
    split
    · simp
    · split
      · rename_i h; subst h; simp
      · simp only [List.mem_cons, insI_mem (l := r)]
        constructor
        · rintro (h | h | h) <;> simp [h]
        · rintro (h | h | h) <;> simp [h]
theorem insI_asc {k : Int} : ∀ {l : List Int}, l.Pairwise (· < ·) → (insI k l).Pairwise (· < ·)
  | [], _ => by simp [insI]
  | a :: r, h => by
    obtain ⟨h1, h2⟩ := List.pairwise_cons.mp h
    unfold insI
    split
    · rename_i hk
      refine List.pairwise_cons.mpr ⟨fun x hx => ?_, h⟩
      rcases List.mem_cons.mp hx with e | e
      · omega
      · have := h1 x e; omega
    · split
      · exact h
      · refine List.pairwise_cons.mpr ⟨fun x hx => ?_, insI_asc h2⟩
        rcases insI_mem.mp hx with e | e
        · omega
        · exact h1 x e
theorem sset_mem {ns : List Int} {x : Int} : x ∈ sset ns ↔ x ∈ ns := by
  unfold sset
  induction ns with
  | nil => rfl
  | cons a r ih => rw [List.foldr_cons, insI_mem, ih, List.mem_cons]
theorem sset_asc {ns : List Int} : (sset ns).Pairwise (· < ·) := by
  unfold sset
  induction ns with
  | nil => exact .nil
  | cons a r ih => exact insI_asc ih
theorem asc_unique : ∀ {a b : List Int}, a.Pairwise (· < ·) → b.Pairwise (· < ·) → (∀ x, x ∈ a ↔ x ∈ b) → a = b
  | [], [], _, _, _ => rfl
  | [], y :: b, _, _, h => by have := (h y).mpr (by simp); cases this
  | x :: a, [], _, _, h => by have := (h x).mp (by simp); cases this
  | x :: a, y :: b, ha, hb, h => by
    obtain ⟨a1, a2⟩ := List.pairwise_cons.mp ha
    obtain ⟨b1, b2⟩ := List.pairwise_cons.mp hb
    have e : x = y := by
      rcases List.mem_cons.mp ((h x).mp (by simp)) with e | e
      · exact e
      rcases List.mem_cons.mp ((h y).mpr (by simp)) with f | f
      · exact f.symm
      have := b1 x e
      have := a1 y f
      omega
    subst e
    rw [asc_unique a2 b2 fun z => ?_]
    constructor
    · intro hz
      rcases List.mem_cons.mp ((h z).mp (by simp [hz])) with e | e
      · have := a1 z hz; omega
      · exact e
    · intro hz
      rcases List.mem_cons.mp ((h z).mpr (by simp [hz])) with e | e
      · have := b1 z hz; omega
      · exact e
abbrev gSortSet := onInts fun ns => if ns.length < 64 then some (.own (.lst ((sset ns).map .int))) else none
theorem qe_sset {X : Cx} {C : Cd} {e : Expr} {fs : List DE} {p p2 q pos : Pos} (ft : Fit X C) (hc : X.calm = true) (hg : Gl X "sorted") (hm : X.mg "sorted" = none) (hg2 : Gl X "set") (hm2 : X.mg "set" = none) (ha : PA X [e] (tDA C fs))
    (hx : starEach [e] X.env = (false, eval e X.env) :: starEach [] X.env := by rfl) (hx2 : starEach [.Call (.Name "set" p2) [e] [] q] X.env = (false, eval (.Call (.Name "set" p2) [e] [] q) X.env) :: starEach [] X.env := by rfl) (hpl : (backTo q (starEach [] X.env)).any (·.1) = false := by rfl) (hpl2 : (backTo pos (starEach [] X.env)).any (·.1) = false := by rfl) :
    PE X (.Call (.Name "sorted" p) [.Call (.Name "set" p2) [e] [] q] [] pos) (tD C (callG gSortSet fs)) := by
  have h1 := pe_callTy (X := X) (x := "set") (p := p2) (pos := q) (cr_setL hc) hg2 hm2 (by decide +kernel) ha (by decide) (by decide) hx hpl
  have h2 := pe_callB (X := X) (x := "sorted") (p := p) (pos := pos) (cr_sortedSet hc) hg hm (by decide +kernel) (pa_cons h1 pa_nil hx2) (by decide) (by decide) hx2 hpl2
  rw [ft.k] at h2
  refine PE.weak h2 fun σ H Q ⟨F, env, I, h⟩ => ⟨F, env, I, (Fin.bnd h).imp fun ds e F1 H1 I1 s1 h1 vs rv => ?_⟩
  cases eg : gSortSet ds with
  | none => simp only [eg] at h1; exact h1.elim
  | some z =>
    simp only [eg] at h1
    unfold gSortSet onInts at eg
    split at eg
    · rename_i zs
      cases e2 : intsOf zs with
      | none => rw [e2] at eg; cases eg
      | some ns =>
        rw [e2] at eg
        have eg : (if ns.length < 64 then some (Sl.own (.lst ((sset ns).map .int))) else none) = some z := eg
        by_cases hl : ns.length < 64
        · rw [if_pos hl] at eg
          cases eg
          obtain ⟨x, rfl, rx⟩ := rep1 rv
          obtain ⟨a, xs, rfl, ha, hr⟩ := rx.lst
          rw [ints_of hr e2] at ha
          refine ⟨a, ns, rfl, .inl (.inl (I1.fh _ _ ha)), hl, fun p c hcn np => ?_⟩
          refine ⟨p, _, c, rfl, upd_same, by omega, fun ms l asc mem len nl => ?_⟩
          have em : ms = sset ns := asc_unique asc sset_asc fun z => by rw [mem, sset_mem]; simp
          subst em
          have I2 := I1.alloc (o := SetO X.w p (fun j => decide (j ∈ ns)) c) np
          obtain ⟨I3, fr⟩ := I2.newList nl (RepL.ints (K := C.K) (mg := C.mg) (ns := sset ns))
          exact h1 _ _ I3 (I1.same np) _ ⟨l, rfl, fr⟩
        · rw [if_neg hl] at eg; cases eg
    · cases eg
end Dd

namespace Dd
open PySem PySem.Spec PyProof.Rows L2
/-! more of the evaluation -/
section
variable {env : DEnv} {X : Str → DEnv → Prop} {Q : Sl × DEnv → Prop}
theorem w_peekI {t : String} {i : Nat} {s : Sl} {d : D} {b : Bool} (e0 : env[i]? = some (some s)) (e1 : s.val = some d) (e2 : isiB d t = some b) (h : Q (.frz (.bl b), env)) : wR (peekC (gIsi1 t) i env) Q X :=
  w_peekC e0 e1 (show (isiB d t).map _ = _ by rw [e2]; rfl) h
theorem w_peekL {i : Nat} {s : Sl} {ds : List D} (e0 : env[i]? = some (some s)) (e1 : s.val = some (.lst ds)) (h : Q (.own (.lst ds), env)) : wR (peekC gList i env) Q X := w_peekC e0 e1 rfl h
theorem w_peekN {i : Nat} {s : Sl} {ds : List D} (e0 : env[i]? = some (some s)) (e1 : s.val = some (.lst ds)) (h : Q (.frz (.int ds.length), env)) : wR (peekC gLen i env) Q X := w_peekC e0 e1 rfl h
end
end Dd
namespace Dd
theorem exG {α : Type} {p : α → Prop} (h : ∃ x, p x) : ∃ x, p x := h
theorem anG {p q : Prop} (h : p ∧ q) : p ∧ q := h
end Dd
namespace Dd
theorem eqG {n : Bool} {a b : D} {P : Sl → Prop} (h : ∃ z, gEq n a b = some z ∧ P z) : ∃ z, gEq n a b = some z ∧ P z := h
theorem slG {a b : Sl} (h : a = b) : a = b := h
end Dd
namespace Dd
open PySem PySem.Spec PyProof.Rows L2
theorem wrG {ε α : Type} {r : R ε α} {Q : α → Prop} {X : Str → ε → Prop} (h : wR r Q X) : wR r Q X := h
end Dd

namespace Dd
open PySem PySem.Spec PyProof.Rows L2
/-! ### xs[::-1] -/
def gRevL : D → Option Sl
  | .lst ds => some (.own (.lst ds.reverse))
  | _ => none
def revD (f : DE) : DE := lift1 gRevL f
theorem qe_rev {X : Cx} {C : Cd} {e : Expr} {f : DE} {k : Nat} {p1 p2 p3 pos : Pos} (ft : Fit X C) (h : PE X e (tD C f)) : PE X (.Subscript e (.Slice none none (some (.UnaryOp .USub (.Constant (.int 1) k p1) p2)) p3) pos) (tD C (revD f)) := by
  have q := pe_revL (X := X) (k := k) (p1 := p1) (p2 := p2) (p3 := p3) (pos := pos) (qz h)
  rw [ft.k] at q
  refine PE.weak q fun σ H Q ⟨F, env, I, h⟩ => ⟨F, env, I, (Fin.bnd h).imp fun s e F1 H1 I1 s1 h1 x rx => ?_⟩
  cases eg : gRevL s.d with
  | none => simp only [eg] at h1; exact h1.elim
  | some z =>
    simp only [eg] at h1
    cases ed : s.d <;> rw [ed] at eg rx <;> first | (cases eg; done) | skip
    cases eg
    obtain ⟨p, xs, rfl, ha, hr⟩ := rx.lst
    refine ⟨p, xs, rfl, .inl (.inl (I1.fh _ _ ha)), fun q nq => ?_⟩
    obtain ⟨I2, fr⟩ := I1.newList nq hr.rev
    exact h1 _ _ I2 (.refl _) _ ⟨q, rfl, fr⟩
end Dd

namespace Dd
open PySem PySem.Spec PyProof.Rows L2
/-! ### list.count and list.index of flat items, {}, == of lists that hold {} -/
def rCntF (K : PySem.W.Frag) : V → List V → Hp → VK → Prop := fun x xs H Q => ∃ (a : Addr) (ys : List V) (y : V), x = .ref a ∧ xs = [y] ∧ SqL K H a ys ∧ flatV y = true ∧ ys.all flatV = true ∧ Q (.int ((ys.countP fun z => eqV z y : Nat) : Int)) H
theorem count_eqU {y : V} : ∀ {ys : List V} {us : List Value}, Vals ys us → ys.all flatV = true → us.countP (eqU y) = ys.countP fun z => eqV z y
  | _, _, .nil, _ => rfl
  | z :: ys, u :: us, .cons r t, f => by
    rw [List.all_cons, Bool.and_eq_true] at f
    rw [List.countP_cons, List.countP_cons, count_eqU t f.2, eqU_of r f.1]
theorem mt_countF {X : Cx} : MtR X "list.count" (rCntF X.K) := by
  intro pins s σ H x xs v us Q I rx rxs h
  obtain ⟨a, ys, y, rfl, rfl, hs, fy, fys, q⟩ := h
  cases rx
  obtain ⟨u, rfl, ru⟩ := rxs.one
  obtain ⟨its, rv, ⟨⟨cls, dd, data, sl⟩, n, ho, hc, hdn, hd⟩, hlen⟩ := I.list hs
  simp only at hc hd
  subst hc hd
  refine call_meets PySem.F.slot_list_count ⟨_, ho, rfl⟩ PySem.F.entry_list_count (PySem.F.args_list_count_2 _ _) (SeqAt.list_countAt a its.toArray n dd sl u (eqU y)) ⟨ho, fun w hw => mem_eqAt ru fy rv fys w (by simpa using hw), ?_⟩
  have e : its.toArray.toList.countP (eqU y) = ys.countP fun z => eqV z y := count_eqU rv fys
  rw [e]
  exact ⟨.int _, H, I.tok _, ⟨_, rfl⟩, q⟩
def methD (g : List D → List D → Option Sl) (f : DE) (fs : List DE) : DE := fun env => (f env).bind fun p => match p.1.d with
  | .lst zs => (argsD fs p.2).bind fun q => (match g zs q.1 with
    | some s => .ok (s, q.2)
    | none => .no)
  | _ => .no
def MeOk (C : Cd) (r : V → List V → Hp → VK → Prop) (g : List D → List D → Option Sl) : Prop := ∀ F H σ env a xs ys zs ds s (Q : VK), In C F H σ env → H a = some (.lst ys) → RepL C.K C.mg F zs ys → RepL C.K C.mg F ds xs → g zs ds = some s →
  (∀ v F' H', In C F' H' σ env → Same F F' → Res C F' H' env σ s v → Q v H') → r (.ref a) xs H Q
theorem qe_meth {X : Cx} {C : Cd} {o e : Expr} {es : List Expr} {f : DE} {fs : List DE} {name : Str} {id : String} {apos cpos : Pos} {r : V → List V → Hp → VK → Prop} {g : List D → List D → Option Sl} (ft : Fit X C) (slot : Slot "list" name id) (hty : typeOf (.builtin id) = pure (.type "method_descriptor")) (hm : MtR X id r) (ok : MeOk C r g) (ho : PE X o (tD C f)) (ha : PA X (e :: es) (tDA C fs))
    (hbase : attributeBase o name X.env (eval o X.env) = eval o X.env := by rfl)
    (hfew : ((backTo cpos (starEach (e :: es) X.env)).all (fun x => !x.1) && (backToKw cpos (keywordEach [] X.env)).all (fun x => x.1.isSome) && decide ((e :: es).length + ([] : List Keyword).length + (if ([] : List Keyword).isEmpty then 0 else 1) < 30)) = true := by rfl)
    (hline : (apos.endLine == cpos.line) = true := by rfl) (hs : starEach (e :: es) X.env = (false, eval e X.env) :: starEach es X.env := by rfl) (hplain : (backTo cpos (starEach es X.env)).any (·.1) = false := by rfl) :
    PE X (.Call (.Attribute o name apos) (e :: es) [] cpos) (tD C (methD g f fs)) := by
  have q := pe_bm (apos := apos) PySem.F.plainAttrs_list slot hty hm (qz ho) ha hbase hfew hline hs hplain
  rw [ft.k] at q
  refine PE.weak q fun σ H Q ⟨F, env, I, h⟩ => ⟨F, env, I, (Fin.bnd h).imp fun s e F1 H1 I1 s1 h1 x rx => ?_⟩
  cases ed : s.d <;> simp only [ed] at h1 rx <;> first | exact h1.elim | skip
  obtain ⟨p, xs, rfl, hp, hr⟩ := rx.lst
  refine ⟨.inl ⟨rfl, xs, .inl (.inl (I1.fh _ _ hp))⟩, F1, e, I1, (Fin.bnd h1).imp fun ds e2 F2 H2 I2 s2 h2 vs rv => ?_⟩
  rename_i zs
  cases eg : g zs ds with
  | none => simp only [eg] at h2; exact h2.elim
  | some z => simp only [eg] at h2; exact ok F2 H2 σ e2 p vs xs zs ds z Q I2 (I2.fh _ _ (s2 _ _ hp)) (hr.mono s2) rv eg fun v F' H' I' s' r' => h2 F' H' I' s' v r'
def gCountF (zs : List D) : List D → Option Sl
  | [d] => if flatD d && zs.all flatD then some (.frz (.int (zs.countP fun e => eqF e d : Nat))) else none
  | _ => none
def gIndexF (zs : List D) : List D → Option Sl
  | [d] => if flatD d && zs.all flatD then (zs.findIdx? fun e => eqF e d).map fun j => .frz (.int (j : Nat)) else none
  | _ => none
theorem rep_cnt {K : PySem.W.Frag} {mg : Str → Option Value} {H : Hp} {d : D} {v : V} (r : Rep K mg H d v) (h : flatD d = true) : ∀ {ds : List D} {vs : List V}, RepL K mg H ds vs → ds.all flatD = true → (vs.countP fun z => eqV z v) = ds.countP fun e => eqF e d
  | [], vs, rl, _ => by rw [rl.nil]; rfl
  | e :: ds, vs, rl, ha => by
    obtain ⟨x, xs, rfl, h1, h2⟩ := rl.cons
    rw [List.all_cons, Bool.and_eq_true] at ha
    rw [List.countP_cons, List.countP_cons, rep_cnt r h h2 ha.2, rep_eqF h1 r ha.1 h]
theorem ok_countF {C : Cd} : MeOk C (rCntF C.K) gCountF := by
  intro F H σ env a xs ys zs ds s Q I ha hz rv hg k
  unfold gCountF at hg
  split at hg
  · rename_i d
    split at hg
    · rename_i hf
      rw [Bool.and_eq_true] at hf
      cases hg
      obtain ⟨x, rfl, rx⟩ := rep1 rv
      refine ⟨a, ys, x, rfl, rfl, .inl (.inl ha), rep_flat rx hf.1, (rep_inV rx hf.1 hz hf.2).1, ?_⟩
      rw [rep_cnt rx hf.1 hz hf.2]
      exact k _ F H I (.refl _) resInt
    · cases hg
  · cases hg
theorem ok_indexF {C : Cd} : MeOk C (rIndex C.K) gIndexF := by
  intro F H σ env a xs ys zs ds s Q I ha hz rv hg k
  unfold gIndexF at hg
  split at hg
  · rename_i d
    split at hg
    · rename_i hf
      rw [Bool.and_eq_true] at hf
      cases ei : zs.findIdx? fun e => eqF e d with
      | none => rw [ei] at hg; cases hg
      | some j =>
        rw [ei] at hg
        cases hg
        obtain ⟨x, rfl, rx⟩ := rep1 rv
        obtain ⟨hj, h1, h2⟩ := List.findIdx?_eq_some_iff_getElem.mp ei
        obtain ⟨z, hz1, rz⟩ := hz.get (List.getElem?_eq_getElem hj)
        have fl : ∀ (m : Nat) (hm : m < zs.length), flatD zs[m] = true := fun m hm => List.all_eq_true.mp hf.2 _ (List.getElem_mem hm)
        refine ⟨a, ys, x, j, z, rfl, rfl, .inl (.inl ha), rep_flat rx hf.1, (rep_inV rx hf.1 hz hf.2).1, hz1, ?_, fun m z' hm hz' => ?_, k _ F H I (.refl _) resInt⟩
        · rw [rep_eqF rz rx (fl j hj) hf.1]; exact h1
        · have hml : m < zs.length := by omega
          obtain ⟨z2, hz2, rz2⟩ := hz.get (List.getElem?_eq_getElem hml)
          cases hz'.symm.trans hz2
          rw [rep_eqF rz2 rx (fl m hml) hf.1]
          simpa using h2 m hm
    · cases hg
  · cases hg
theorem ca_indexF {X : Cx} {C : Cd} (ft : Fit X C) : MtR X "list.index" (rIndex C.K) := by rw [← ft.k]; exact mt_index
theorem ca_countF {X : Cx} {C : Cd} (ft : Fit X C) : MtR X "list.count" (rCntF C.K) := by rw [← ft.k]; exact mt_countF
def noDictD : DE := fun env => .ok (.frz (.dK [] []), env)
theorem qe_noDict {X : Cx} {C : Cd} {pos : Pos} : PE X (.Dict [] [] pos) (tD C noDictD) :=
  PE.weak pe_dnewK fun σ H Q ⟨F, env, I, h⟩ => fun p np => h _ _ (I.alloc np) (I.same np) _ (by unfold Res Rep; exact ⟨p, [], rfl, .inl upd_same, rfl, repNil⟩)
/-! == -/
theorem emptyEq (a b : Addr) (ep ep2 : Nat) (d1 d2 : Option Addr) (l1 l2 : Array (Option Value)) (na : ¬ (a == sysModules) = true) (nb : ¬ (b == sysModules) = true) : Meets (Builtin.«dict.__eq__» ⟨[.ref a, .ref b], []⟩) (fun _ R s => s.heap.get? a = some { cls := .type "dict", dict := d1, data := .dict #[] ep, slots := l1 } ∧ s.heap.get? b = some { cls := .type "dict", dict := d2, data := .dict #[] ep2, slots := l2 } ∧ R (.ok (.ret (.bool true))) s) := by
  intro prog w A R s h
  obtain ⟨hp, g, d, tk, os⟩ := s
  obtain ⟨hl, hb, h⟩ := h
  have sub : isSubtype (.type "dict") (.type "dict") = pure true := by rw [isSubtype_type]; kernel_rfl
  unfold Builtin.«dict.__eq__»
  wp_walk using wpAny_loadPart' hl, wpAny_loadPart' hb
  refine wpAny_of_eq (a := (none, ())) (by first | rfl | (with_unfolding_all rfl)) ?_
  wp_walk
  exact h
def EqP (K : PySem.W.Frag) (H : Hp) (x y : V) (b : Bool) : Prop := (∃ d e, Dp K H x d ∧ Dp K H y e ∧ SeqAt.shaped d = true ∧ SeqAt.shaped e = true ∧ d.depth ≤ 60 ∧ b = PyData.eqv d e) ∨ (∃ p q, x = .ref p ∧ y = .ref q ∧ Rd H p (.dK []) ∧ Rd H q (.dK []) ∧ b = true)
inductive EqPs (K : PySem.W.Frag) (H : Hp) : List V → List V → List Bool → Prop
  | nil : EqPs K H [] [] []
  | cons {x y : V} {b : Bool} {xs ys : List V} {bs : List Bool} : EqP K H x y b → EqPs K H xs ys bs → EqPs K H (x :: xs) (y :: ys) (b :: bs)
theorem EqPs.len {K : PySem.W.Frag} {H : Hp} : ∀ {xs ys : List V} {bs : List Bool}, EqPs K H xs ys bs → xs.length = bs.length ∧ ys.length = bs.length
  | _, _, _, .nil => ⟨rfl, rfl⟩
  | _, _, _, .cons _ t => by simp [t.len.1, t.len.2]
theorem EqPs.at {K : PySem.W.Frag} {H : Hp} : ∀ {xs ys : List V} {bs : List Bool}, EqPs K H xs ys bs → ∀ (j : Nat) (h1 : j < xs.length) (h2 : j < ys.length) (h3 : j < bs.length), EqP K H xs[j] ys[j] bs[j]
  | _, _, _, .cons h t, 0, _, _, _ => h
  | _, _, _, .cons h t, j + 1, h1, h2, h3 => t.at j (by simpa using h1) (by simpa using h2) (by simpa using h3)
def rEqX (K : PySem.W.Frag) : R2 := fun x y H Q => rEqD K x y H Q ∨ ∃ p q xs ys bs, x = .ref p ∧ y = .ref q ∧ SqL K H p xs ∧ SqL K H q ys ∧ EqPs K H xs ys bs ∧ Q (.bl (bs.all id)) H
theorem emptyAt {X : Cx} {pins : List (Addr × Obj)} {σ : L2.St} {H : Hp} {s : Shared} {A : Around} {p q : Addr} (I : Inv X pins σ H s) (hp : Rd H p (.dK [])) (hq : Rd H q (.dK [])) (hu : A.units < cLine) : SeqAt.EqAt A s (.ref p) (.ref q) true := by
  by_cases e : p = q
  · subst e; exact SeqAt.EqAt.same _
  · obtain ⟨_, np, vs, kv, o, es, ep, ho, ex, hd, _, pr, _⟩ := dk_rd I.hok hp
    obtain ⟨_, nq, vs2, kv2, o2, es2, ep2, ho2, ex2, hd2, _, pr2, _⟩ := dk_rd I.hok hq
    cases kv
    cases kv2
    have e1 : es = #[] := by have := pr.length; simpa using this
    have e2 : es2 = #[] := by have := pr2.length; simpa using this
    subst e1 e2
    obtain ⟨c1, d1, dt1, l1⟩ := o
    obtain ⟨c2, d2, dt2, l2⟩ := o2
    have x1 := ex.1
    have x2 := ex2.1
    simp only at x1 x2 hd hd2
    subst x1 x2 hd hd2
    refine SeqAt.EqAt.of_refs e fun prog w E Q hQ => ?_
    exact richCompare_meets_room (op := .Eq) ⟨_, ho, rfl⟩ ⟨_, ho2, rfl⟩ PySem.F.slot_dict_eq PySem.F.entry_dict_eq (PySem.F.args_dict_eq_2 _ _) (emptyEq p q ep ep2 d1 d2 l1 l2 (by rw [np]; decide) (by rw [nq]; decide)) ⟨ho, ho2, show Value.bool true ≠ Value.notImplemented ∧ Q (.bool true) s from ⟨(fun z => nomatch z), hQ⟩⟩ hu
theorem op_eqX {X : Cx} {C : Cd} (ft : Fit X C) (hu : X.A.units + 64 < cLine) : OpR X (compareOp .Eq) (rEqX C.K) := by
  rw [← ft.k]
  refine OpR.or (op_eqD hu) ?_
  intro pins s σ H x y v u Q I rx ry h
  obtain ⟨p, q, xs, ys, bs, rfl, rfl, hp, hq, he, k⟩ := h
  cases rx
  cases ry
  obtain ⟨its, rv, pl, hz⟩ := I.list hp
  obtain ⟨its2, rv2, pl2, hz2⟩ := I.list hq
  have hl := he.len
  have l1 : its.length = bs.length := by rw [← rv.length, hl.1]
  have l2 : its2.length = bs.length := by rw [← rv2.length, hl.2]
  have fin : ((List.range its.toArray.size).all fun j => bs.getD j true) = bs.all id := by
    rw [List.size_toArray, l1]
    apply Bool.eq_iff_iff.mpr
    rw [List.all_eq_true, List.all_eq_true]
    constructor
    · intro h b hb
      obtain ⟨j, hj, rfl⟩ := List.getElem_of_mem hb
      have := h j (List.mem_range.mpr hj)
      rw [List.getD_eq_getElem?_getD, List.getElem?_eq_getElem hj] at this
      exact this
    · intro h j hj
      have hj := List.mem_range.mp hj
      rw [List.getD_eq_getElem?_getD, List.getElem?_eq_getElem hj]
      exact h _ (List.getElem_mem hj)
  refine SeqAt.eq_listAt (e := fun j => bs.getD j true) pl.isList pl2.isList (by simp [l1, l2]) (by omega) (fun j h1 h2 => ?_) (by rw [fin]; exact ⟨.bl _, H, I, rfl, k⟩)
  have hj : j < bs.length := by simpa [l1] using h1
  have hx := he.at j (by omega) (by omega) hj
  have eb : bs.getD j true = bs[j] := by rw [List.getD_eq_getElem?_getD, List.getElem?_eq_getElem hj]; rfl
  rw [eb]
  obtain ⟨u1, hu1, r1⟩ := rv.get (List.getElem?_eq_getElem (by omega : j < xs.length))
  obtain ⟨u2, hu2, r2⟩ := rv2.get (List.getElem?_eq_getElem (by omega : j < ys.length))
  have g1 : its.toArray[j] = u1 := by have := (List.getElem?_eq_some_iff.mp hu1).2; simpa using this
  have g2 : its2.toArray[j] = u2 := by have := (List.getElem?_eq_some_iff.mp hu2).2; simpa using this
  rw [g1, g2]
  rcases hx with ⟨d, e, h1, h2, s1, s2, dp, hb⟩ | ⟨a, b, ex, ey, h1, h2, hb⟩
  · obtain ⟨as, ra⟩ := Dp.reads I d _ _ h1 r1
    obtain ⟨bs', rb⟩ := Dp.reads I e _ _ h2 r2
    rw [hb]
    refine SeqAt.eqAt_reads d e _ s u1 u2 as bs' ra rb (SeqAt.canLay_of_shaped s1) (SeqAt.canLay_of_shaped s2) ?_
    show X.A.units + 1 + _ < cLine
    have := Nat.min_le_left d.depth e.depth
    omega
  · rw [ex] at r1
    rw [ey] at r2
    cases r1
    cases r2
    rw [hb]
    exact emptyAt I h1 h2 (by show X.A.units + 1 < cLine; omega)
/-- == of two things, or of lists of things some of which are {} -/
def eqPD : D → D → Option Bool
  | .dK [] _, .dK [] _ => some true
  | d, e => if plain d && plain e && decide (((toPy d).map PyData.depth).getD 0 ≤ 60) then some (pyEq d e) else none
def eqPDs : List D → List D → Option (List Bool)
  | [], [] => some []
  | d :: ds, e :: es => match eqPD d e, eqPDs ds es with
    | some b, some bs => some (b :: bs)
    | _, _ => none
  | _, _ => none
def gEqX (d e : D) : Option Sl := match gEq false d e with
  | some s => some s
  | none => match d, e with
    | .lst ds, .lst es => (eqPDs ds es).map fun bs => .frz (.bl (bs.all id))
    | _, _ => none
theorem ok_pd {C : Cd} {F H : Hp} (fh : Same F H) {d e : D} {x y : V} {b : Bool} (rx : Rep C.K C.mg F d x) (ry : Rep C.K C.mg F e y) (h : eqPD d e = some b) : EqP C.K H x y b := by
  unfold eqPD at h
  split at h
  · cases h
    unfold Rep at rx ry
    obtain ⟨a, xs, rfl, h1, _⟩ := rx
    obtain ⟨a2, xs2, rfl, h2, _⟩ := ry
    exact .inr ⟨a, a2, rfl, rfl, rd_mono fh h1, rd_mono fh h2, rfl⟩
  · split at h
    · rename_i hp
      cases h
      rw [Bool.and_eq_true, Bool.and_eq_true] at hp
      obtain ⟨p, e1, s1⟩ := plain_of hp.1.1
      obtain ⟨q, e2, s2⟩ := plain_of hp.1.2
      have hd := of_decide_eq_true hp.2
      rw [e1] at hd
      exact .inl ⟨p, q, rep_dp (rx.mono fh) e1, rep_dp (ry.mono fh) e2, s1, s2, hd, by unfold pyEq; rw [e1, e2]⟩
    · cases h
theorem ok_pds {C : Cd} {F H : Hp} (fh : Same F H) : ∀ {ds es : List D} {xs ys : List V} {bs : List Bool}, RepL C.K C.mg F ds xs → RepL C.K C.mg F es ys → eqPDs ds es = some bs → EqPs C.K H xs ys bs
  | [], [], xs, ys, bs, rx, ry, h => by rw [rx.nil, ry.nil]; unfold eqPDs at h; cases h; exact .nil
  | [], e :: es, _, _, _, _, _, h => by unfold eqPDs at h; cases h
  | d :: ds, [], _, _, _, _, _, h => by unfold eqPDs at h; cases h
  | d :: ds, e :: es, xs, ys, bs, rx, ry, h => by
    obtain ⟨x, xs', rfl, h1, h2⟩ := rx.cons
    obtain ⟨y, ys', rfl, h3, h4⟩ := ry.cons
    unfold eqPDs at h
    cases e1 : eqPD d e with
    | none => rw [e1] at h; cases h
    | some b =>
      cases e2 : eqPDs ds es with
      | none => rw [e1, e2] at h; cases h
      | some bs' =>
        rw [e1, e2] at h
        cases h
        exact .cons (ok_pd fh h1 h3 e1) (ok_pds fh h2 h4 e2)
theorem ok_eqX {C : Cd} : OpOk C (rEqX C.K) gEqX := by
  intro F H σ env x y d e s Q I rx ry hg k
  unfold gEqX at hg
  cases e1 : gEq false d e with
  | some z =>
    rw [e1] at hg
    cases hg
    exact .inl (ok_eq F H σ env x y d e s Q I rx ry e1 k)
  | none =>
    rw [e1] at hg
    simp only at hg
    split at hg
    · rename_i ds es
      cases e2 : eqPDs ds es with
      | none => rw [e2] at hg; cases hg
      | some bs =>
        rw [e2] at hg
        cases hg
        obtain ⟨p, xs, rfl, h1, h2⟩ := rx.lst
        obtain ⟨q, ys, rfl, h3, h4⟩ := ry.lst
        exact .inr ⟨p, q, xs, ys, bs, rfl, rfl, .inl (.inl (I.fh _ _ h1)), .inl (.inl (I.fh _ _ h3)), ok_pds I.fh h2 h4 e2, k _ F H I (.refl _) resBl⟩
    · cases hg
end Dd
namespace Dd
open PySem PySem.Spec PyProof.Rows L2
/-! ### a def that raises nothing, called where something may be raised -/
def call0D (g : DF) (fs : List DE) : DE := fun env => (argsD fs env).bind fun p => match g p.1 with
  | .ok q => .ok (q.1, p.2)
  | _ => .no
section
variable {X : Cx} {C : Cd} {x : Str} {st : Stmt} {ps : List Str} {k : Nat} {e : Expr} {es : List Expr} {p pos : Pos} {g : DF} {fs : List DE}
theorem t_callN {σ : L2.St} {H : Hp} {Q : VK} {n : Nat} {E : XK} (hn : fs.length = n) : tD C (call0D g fs) σ H Q → tDA C fs σ H fun vs H1 => sp0 C.K C.mg n g vs H1 Q E := fun ⟨F, env, I, h⟩ => ⟨F, env, I, by
  unfold call0D at h
  cases ea : argsD fs env with
  | no => rw [ea] at h; exact h
  | er c fs z => rw [ea] at h; exact h
  | ok p =>
    rw [ea] at h
    intro F1 H1 I1 s1 vs rv
    refine ⟨by rw [rv.len, argsD_len ea]; exact hn, F1, p.1, I1.fh, rv, ?_⟩
    simp only [R.bind_ok] at h
    cases eg : g p.1 with
    | no => simp only [eg] at h; exact h.elim
    | er c fs z => simp only [eg] at h; exact h.elim
    | ok q =>
      simp only [eg] at h
      exact fun v F' H' x r => h F' H' (I1.call x) (s1.trans x.ff) v (I1.resO r)⟩
theorem qe_call0 (ft : Fit X C) (O : Ok X.prog X.w X.K X.mg X.base CX0 x st k ps (sp0 X.K X.mg ps.length g)) (hr : Room k X.A) (hg : Gl X x) (ha : PA X (e :: es) (tDA C fs)) (hn : fs.length = ps.length := by rfl) (hdb : (x == ("__debug__" : Str)) = false := by decide) (he : starEach (e :: es) X.env = (false, eval e X.env) :: starEach es X.env := by rfl) (hpl : (backTo pos (starEach es X.env)).any (·.1) = false := by rfl) :
    PE X (.Call (.Name x p) (e :: es) [] pos) (tD C (call0D g fs)) := by
  obtain ⟨f, fd, F, G, m, b⟩ := O
  refine PE.weak (pe_call G hr hg m F.kp b .nil pass0 ha hdb he hpl) fun σ H Q h => ?_
  have q := t_callN (E := E0) hn h
  rw [← ft.k, ← ft.m] at q
  obtain ⟨F1, env, I, q⟩ := q
  exact ⟨F1, env, I, q.imp fun ds e F' H' I' s' k vs rv => by show sp0 X.K X.mg ps.length g (vs ++ []) H' Q E0; rw [List.append_nil]; exact k vs rv⟩
end
theorem w_call0 {env : DEnv} {X : Str → DEnv → Prop} {Q : Sl × DEnv → Prop} {g : DF} {fs : List DE} (h : wR (argsD fs env) (fun p => wR (g p.1) (fun q => Q (q.1, p.2)) (fun _ _ => False)) X) : wR (call0D g fs env) Q X :=
  wR_bind (h.mon fun p h => by
    obtain ⟨q, e, h⟩ := h.ok
    simp only [e]
    exact h)
theorem w_meth {env : DEnv} {X : Str → DEnv → Prop} {Q : Sl × DEnv → Prop} {g : List D → List D → Option Sl} {f : DE} {fs : List DE} (h : wR (f env) (fun p => ∃ zs, p.1.d = .lst zs ∧ wR (argsD fs p.2) (fun q => ∃ s, g zs q.1 = some s ∧ Q (s, q.2)) X) X) : wR (methD g f fs env) Q X :=
  wR_bind (h.mon fun p ⟨zs, e, h⟩ => by
    simp only [e]
    exact wR_bind (h.mon fun q ⟨s, e, h⟩ => by simp only [e]; exact h))
theorem w_noDict {env : DEnv} {X : Str → DEnv → Prop} {Q : Sl × DEnv → Prop} (h : Q (.frz (.dK [] []), env)) : wR (noDictD env) Q X := h
end Dd
namespace Dd
open PySem PySem.Spec PyProof.Rows L2
theorem gEqX_of {d e : D} {s : Sl} (h : gEq false d e = some s) : gEqX d e = some s := by unfold gEqX; rw [h]
theorem gEqX_int {i j : Int} : gEqX (.int i) (.int j) = some (.frz (.bl (false != decide (i = j)))) := gEqX_of gEq_int
theorem pd_pl {d : D} (h : Pl 40 d) : eqPD d d = some true := by
  have hp := h.plain (by decide)
  obtain ⟨p, a, b, c⟩ := h
  unfold eqPD
  split
  · rfl
  · rw [if_pos, pyEq_refl hp]
    rw [hp, a]
    show (true && true && decide (p.depth ≤ 60)) = true
    rw [decide_eq_true (by omega)]
    rfl
theorem gEqX_pair {a b : D} (h1 : eqPD a a = some true) (h2 : eqPD b b = some true) : gEqX (.lst [a, b]) (.lst [a, b]) = some (.frz (.bl true)) := by
  unfold gEqX
  cases e : gEq false (.lst [a, b]) (.lst [a, b]) with
  | some s =>
    unfold gEq at e
    split at e
    · rename_i h
      rw [Bool.and_eq_true] at h
      cases e
      rw [pyEq_refl h.1]
      rfl
    · cases e
  | none =>
    simp only [eqPDs, h1, h2]
    rfl
end Dd

namespace Dd
open PySem PySem.Spec PyProof.Rows L2
/-! evaluation: instances -/
section
variable {env : DEnv} {X : Str → DEnv → Prop} {Q : Sl × DEnv → Prop} {T : Out → Prop}
theorem w_attr {tab : Str → Bool} {f : Str} {g : DE} (h : wR (g env) (fun p => ∃ z, gAttr tab f p.1.d = some z ∧ Q (z, p.2)) X) : wR (attrD tab f g env) Q X := w_lift1 h
theorem w_setAt {tab : Str → Bool} {f : Str} {i : Nat} {g : DE} (h : wR (g env) (fun p => ∃ s c ks ds, p.2[i]? = some (some s) ∧ s.mut = true ∧ s.d = .obj c ks ds ∧ (tab c && decide (ks.length < 1000)) = true ∧ T (.nx (p.2.set i (some (s.put (.obj c (putK f ks) (putD f p.1.d ks ds))))))) X) : wR (setAtD tab f i g env) T X :=
  wS_bind (h.mon fun p ⟨s, c, ks, ds, e1, e2, e3, e4, h⟩ => by
    simp only [e1, e2, e3, e4, if_true]
    exact h)
theorem w_new {g : DF} {c : Str} {ds : List D} (h : wR (g (.obj c [] [] :: ds)) (fun r => ∃ d, r = (.frz .non, [d]) ∧ Q (.own d, env)) (fun _ _ => False)) : wR (newD g c ds env) Q X := by
  obtain ⟨r, e, d, e2, h⟩ := h.ok
  subst e2
  unfold newD
  rw [e]
  exact h
theorem w_makeK {g : DF} {c : Str} {pk : List D → List D} {kfs : List DE} (h : wR (argsD kfs env) (fun q => wR (g (.obj c [] [] :: pk q.1)) (fun r => ∃ d, r = (.frz .non, [d]) ∧ Q (.own d, q.2)) (fun _ _ => False)) X) : wR (makeKD g c pk kfs env) Q X :=
  wR_bind (h.mon fun q h => w_new h)
theorem w_lstRg {f : DE} (h : wR (f env) (fun p => ∃ n, p.1.d = .int n ∧ (0 ≤ n ∧ n ≤ 16777216) ∧ Q (.own (.lst (rangeL 0 n.toNat)), p.2)) X) : wR (lstRgD f env) Q X :=
  wR_bind (h.mon fun p ⟨n, e, hb, h⟩ => by simp only [e, if_pos hb]; exact h)
end
end Dd
namespace Dd
theorem gIs_T {n : Bool} {a b : D} (h : gIs n a b = some (.frz (.bl true))) : gIs n a b = some (.frz (.bl true)) := h
theorem gIs_F {n : Bool} {a b : D} (h : gIs n a b = some (.frz (.bl false))) : gIs n a b = some (.frz (.bl false)) := h
end Dd

namespace Dd
open PySem PySem.Spec PyProof.Rows L2
/-! ### evaluation by rewriting -/
/-- a mark that keeps the rewriting out of what it speaks of -/
structure Kq {α : Sort u} (a : α) : Type
def kq {α : Sort u} {a : α} : Kq a := ⟨⟩
def wE {ε α : Type} (r : R ε α) (Q : α → Prop) (X : Str → ε → Prop) (_ : Kq Q) (_ : Kq X) : Prop := wR r Q X
def oQ {α : Type} (o : Option α) (Q : α → Prop) (_ : Kq Q) : Prop := match o with
  | some a => Q a
  | none => False
def iQ (b : Bool) (A B : Prop) (_ : Kq A) (_ : Kq B) : Prop := match b with
  | true => A
  | false => B
def eQ {α : Type} (e : α) (Q : α → Prop) (_ : Kq Q) : Prop := Q e
def nmQ (o : Option (Option Sl)) (i : Nat) (env : DEnv) (Q : Sl × DEnv → Prop) (_ : Kq Q) : Prop := match o with
  | some (some (.frz d)) => Q (.frz d, env)
  | some (some (.own d)) => eQ (env.set i (some (.frz d))) (fun e => Q (.frz d, e)) kq
  | _ => False
def rnQ (o : Option (Option Sl)) (i : Nat) (env : DEnv) (T : Out → Prop) (_ : Kq T) : Prop := match o with
  | some (some (.frz d)) => T (.rt (.frz d) env)
  | some (some (.own d)) => T (.rt (.own d) (env.set i none))
  | _ => False
def slQ (o : Option (Option Sl)) (K : Sl → Prop) (_ : Kq K) : Prop := match o with
  | some (some s) => K s
  | _ => False
def blQ (d : D) (K : Bool → Prop) (_ : Kq K) : Prop := match d with
  | .bl b => K b
  | _ => False
def inQ (d : D) (K : Int → Prop) (_ : Kq K) : Prop := match d with
  | .int b => K b
  | _ => False
def lsQ (d : D) (K : List D → Prop) (_ : Kq K) : Prop := match d with
  | .lst b => K b
  | _ => False
def l1Q {α : Type} (l : List α) (K : α → Prop) (_ : Kq K) : Prop := match l with
  | [d] => K d
  | _ => False
def l2Q {α : Type} (l : List α) (K : α → α → Prop) (_ : Kq K) : Prop := match l with
  | [d, e] => K d e
  | _ => False
def outQ (Q : Sl × List D → Prop) (o : Out) : Prop := match o with
  | .rt s _ => Q (s, [])
  | .nx _ => Q (.frz .non, [])
  | _ => False
def e0Q (e : DEnv) (K : D → Prop) (_ : Kq K) : Prop := match e[0]? with
  | some (some (Sl.bor d)) => K d
  | _ => False
def outBQ (Q : Sl × List D → Prop) (o : Out) : Prop := match o with
  | .rt s e => e0Q e (fun d => Q (s, [d])) kq
  | .nx e => e0Q e (fun d => Q (.frz .non, [d])) kq
  | _ => False
def tbQ (o : Option Sl) (K : Bool → Prop) (_ : Kq K) : Prop := match o with
  | some (.frz (.bl b)) => K b
  | _ => False
def exQ (o : Option (Option Sl)) (K : Str → Prop) (_ : Kq K) : Prop := match o with
  | some (some (.exn c)) => K c
  | _ => False
def nwQ (p : Sl × List D) (K : D → Prop) (_ : Kq K) : Prop := match p with
  | (.frz .non, [d]) => K d
  | _ => False
def fzQ (o : Option (Option Sl)) (K : D → Prop) (_ : Kq K) : Prop := match o with
  | some (some (.frz d)) => K d
  | _ => False
theorem wE_in {ε α : Type} {r : R ε α} {Q : α → Prop} {X : Str → ε → Prop} (h : wE r Q X kq kq) : wR r Q X := h
theorem wE_mon {ε α : Type} {r : R ε α} {Q Q' : α → Prop} {X : Str → ε → Prop} (h : wR r Q X) (q : ∀ a, Q a → Q' a) : wE r Q' X kq kq := h.mono q fun _ _ x => x
theorem wE_mono {ε α : Type} {r : R ε α} {Q Q' : α → Prop} {X X' : Str → ε → Prop} (h : wR r Q X) (q : ∀ a, Q a → Q' a) (x : ∀ c e, X c e → X' c e) : wE r Q' X' kq kq := h.mono q x
theorem wE_out {ε α : Type} {r : R ε α} {Q : α → Prop} {X : Str → ε → Prop} (h : wR r Q X) : wE r Q X kq kq := h
section
variable {α ε : Type} {Q : α → Prop}
theorem oQ_s {a : α} : oQ (some a) Q kq = Q a := rfl
theorem oQ_n : oQ none Q kq = False := rfl
theorem iQ_t {A B : Prop} : iQ true A B kq kq = A := rfl
theorem iQ_f {A B : Prop} : iQ false A B kq kq = B := rfl
theorem eQ_e {e : α} : eQ e Q kq = Q e := rfl
theorem nm_f {d : D} {i : Nat} {env : DEnv} {Q : Sl × DEnv → Prop} : nmQ (some (some (.frz d))) i env Q kq = Q (.frz d, env) := rfl
theorem nm_o {d : D} {i : Nat} {env : DEnv} {Q : Sl × DEnv → Prop} : nmQ (some (some (.own d))) i env Q kq = eQ (env.set i (some (.frz d))) (fun e => Q (.frz d, e)) kq := rfl
theorem rn_f {d : D} {i : Nat} {env : DEnv} {Q : Out → Prop} : rnQ (some (some (.frz d))) i env Q kq = Q (.rt (.frz d) env) := rfl
theorem rn_o {d : D} {i : Nat} {env : DEnv} {Q : Out → Prop} : rnQ (some (some (.own d))) i env Q kq = Q (.rt (.own d) (env.set i none)) := rfl
theorem sl_s {s : Sl} {K : Sl → Prop} : slQ (some (some s)) K kq = K s := rfl
theorem bl_b {b : Bool} {K : Bool → Prop} : blQ (.bl b) K kq = K b := rfl
theorem in_i {b : Int} {K : Int → Prop} : inQ (.int b) K kq = K b := rfl
theorem ls_l {b : List D} {K : List D → Prop} : lsQ (.lst b) K kq = K b := rfl
theorem l1_l {a : α} {K : α → Prop} : l1Q [a] K kq = K a := rfl
theorem l2_l {a b : α} {K : α → α → Prop} : l2Q [a, b] K kq = K a b := rfl
theorem e0_e {d : D} {e : DEnv} {K : D → Prop} : e0Q (some (.bor d) :: e) K kq = K d := rfl
theorem out_rt {Q : Sl × List D → Prop} {s : Sl} {e : DEnv} : outQ Q (.rt s e) = Q (s, []) := rfl
theorem out_nx {Q : Sl × List D → Prop} {e : DEnv} : outQ Q (.nx e) = Q (.frz .non, []) := rfl
theorem outB_rt {Q : Sl × List D → Prop} {s : Sl} {e : DEnv} : outBQ Q (.rt s e) = e0Q e (fun d => Q (s, [d])) kq := rfl
theorem outB_nx {Q : Sl × List D → Prop} {e : DEnv} : outBQ Q (.nx e) = e0Q e (fun d => Q (.frz .non, [d])) kq := rfl
theorem th_nx {k : DEnv → Prop} {T : Out → Prop} {e : DEnv} : thenS k T (.nx e) = k e := rfl
theorem th_rt {k : DEnv → Prop} {T : Out → Prop} {s : Sl} {e : DEnv} : thenS k T (.rt s e) = T (.rt s e) := rfl
theorem th_bk {k : DEnv → Prop} {T : Out → Prop} {e : DEnv} : thenS k T (.bk e) = T (.bk e) := rfl
theorem th_ct {k : DEnv → Prop} {T : Out → Prop} {e : DEnv} : thenS k T (.ct e) = T (.ct e) := rfl
theorem lo_nx {k : DEnv → Prop} {T : Out → Prop} {e : DEnv} : loopT k T (.nx e) = k e := rfl
theorem lo_ct {k : DEnv → Prop} {T : Out → Prop} {e : DEnv} : loopT k T (.ct e) = k e := rfl
theorem lo_bk {k : DEnv → Prop} {T : Out → Prop} {e : DEnv} : loopT k T (.bk e) = T (.nx e) := rfl
theorem lo_rt {k : DEnv → Prop} {T : Out → Prop} {s : Sl} {e : DEnv} : loopT k T (.rt s e) = T (.rt s e) := rfl
theorem wR_okE {a : α} {X : Str → ε → Prop} : wE (.ok a) Q X kq kq = Q a := rfl
theorem iQ_by {b : Bool} {A B : Prop} (h1 : b = true → A) (h2 : b = false → B) : iQ b A B kq kq := by cases b; exact h2 rfl; exact h1 rfl
theorem iQ_dec {p : Prop} [Decidable p] {A B : Prop} (h1 : p → A) (h2 : ¬ p → B) : iQ (decide p) A B kq kq := iQ_by (fun h => h1 (of_decide_eq_true h)) fun h => h2 (of_decide_eq_false h)
theorem eq_of_wR {r : R ε α} {a : α} (h : wR r (fun x => x = a) fun _ _ => False) : r = .ok a := by
  obtain ⟨x, e, rfl⟩ := h.ok
  exact e
theorem eq_of_wE {r : R ε α} {a : α} (h : wE r (fun x => x = a) (fun _ _ => False) kq kq) : r = .ok a := eq_of_wR h
end
section
variable {env : DEnv} {X : Str → DEnv → Prop}
theorem x_bind {ε α β : Type} {r : R ε α} {k : α → R ε β} {Q : β → Prop} {X : Str → ε → Prop} : wE (r.bind k) Q X kq kq = wE r (fun a => wE (k a) Q X kq kq) X kq kq := by
  cases r with
  | ok a => rfl
  | er c fs e => cases fs <;> rfl
  | no => rfl
theorem x_bindS {α : Type} {r : R DEnv (α × DEnv)} {k : α × DEnv → R DEnv Out} {Q : Out → Prop} : wE (bindS r k) Q X kq kq = wE r (fun a => wE (k a) Q X kq kq) X kq kq := by
  cases r with
  | ok a => rfl
  | er c fs e => cases fs <;> rfl
  | no => rfl
theorem wR_cg {ε α : Type} {r : R ε α} {Q Q' : α → Prop} {X : Str → ε → Prop} (h : ∀ a, Q a = Q' a) : wE r Q X kq kq = wE r Q' X kq kq := by rw [show Q = Q' from funext h]
variable {Q : Sl × DEnv → Prop} {f fa fb fc : DE} {d : D}
theorem e_con : wE (conD d env) Q X kq kq = Q (.frz d, env) := rfl
theorem e_name {i : Nat} : wE (nameD i env) Q X kq kq = nmQ env[i]? i env Q kq := by
  unfold nameD wE nmQ
  cases env[i]? with
  | none => rfl
  | some o =>
    cases o with
    | none => rfl
    | some s => cases s <;> rfl
theorem e_lift1 {g : D → Option Sl} : wE (lift1 g fa env) Q X kq kq = wE (fa env) (fun p => oQ (g p.1.d) (fun z => Q (z, p.2)) kq) X kq kq := by
  unfold lift1
  rw [x_bind]
  refine wR_cg fun p => ?_
  cases g p.1.d <;> rfl
theorem e_lift2 {g : D → D → Option Sl} : wE (lift2 g fa fb env) Q X kq kq = wE (fa env) (fun p => wE (fb p.2) (fun q => oQ (g p.1.d q.1.d) (fun z => Q (z, q.2)) kq) X kq kq) X kq kq := by
  unfold lift2
  rw [x_bind]
  refine wR_cg fun p => ?_
  rw [x_bind]
  refine wR_cg fun q => ?_
  cases g p.1.d q.1.d <;> rfl
theorem e_bool {Q : Bool × DEnv → Prop} : wE (boolT f env) Q X kq kq = wE (f env) (fun p => blQ p.1.d (fun b => Q (b, p.2)) kq) X kq kq := by
  unfold boolT
  rw [x_bind]
  refine wR_cg fun p => ?_
  cases p.1.d <;> rfl
theorem e_andT {g g' : DT} {Q : Bool × DEnv → Prop} : wE (andT g g' env) Q X kq kq = wE (g env) (fun p => iQ p.1 (wE (g' p.2) Q X kq kq) (Q (false, p.2)) kq kq) X kq kq := by
  unfold andT
  rw [x_bind]
  refine wR_cg fun p => ?_
  cases p.1 <;> rfl
theorem e_orT {g g' : DT} {Q : Bool × DEnv → Prop} : wE (orT g g' env) Q X kq kq = wE (g env) (fun p => iQ p.1 (Q (true, p.2)) (wE (g' p.2) Q X kq kq) kq kq) X kq kq := by
  unfold orT
  rw [x_bind]
  refine wR_cg fun p => ?_
  cases p.1 <;> rfl
theorem e_notT {g : DT} {Q : Bool × DEnv → Prop} : wE (notT g env) Q X kq kq = wE (g env) (fun p => Q (!p.1, p.2)) X kq kq := by
  unfold notT
  rw [x_bind]
  rfl
theorem e_yes {Q : Bool × DEnv → Prop} : wE (yesT env) Q X kq kq = Q (true, env) := rfl
theorem e_andV : wE (andV fa fb env) Q X kq kq = wE (fa env) (fun p => blQ p.1.d (fun b => iQ b (wE (fb p.2) Q X kq kq) (Q (.frz (.bl false), p.2)) kq kq) kq) X kq kq := by
  unfold andV
  rw [x_bind]
  refine wR_cg fun p => ?_
  cases p.1.d with
  | bl b => cases b <;> rfl
  | _ => rfl
theorem e_orV : wE (orV fa fb env) Q X kq kq = wE (fa env) (fun p => blQ p.1.d (fun b => iQ b (Q (.frz (.bl true), p.2)) (wE (fb p.2) Q X kq kq) kq kq) kq) X kq kq := by
  unfold orV
  rw [x_bind]
  refine wR_cg fun p => ?_
  cases p.1.d with
  | bl b => cases b <;> rfl
  | _ => rfl
theorem e_notV : wE (notV fa env) Q X kq kq = wE (fa env) (fun p => blQ p.1.d (fun b => Q (.frz (.bl (!b)), p.2)) kq) X kq kq := by
  unfold notV
  rw [x_bind]
  refine wR_cg fun p => ?_
  cases p.1.d <;> rfl
theorem e_ifV {c : DT} : wE (ifV c fa fb env) Q X kq kq = wE (c env) (fun p => iQ p.1 (wE (fa p.2) Q X kq kq) (wE (fb p.2) Q X kq kq) kq kq) X kq kq := by
  unfold ifV
  rw [x_bind]
  refine wR_cg fun p => ?_
  cases p.1 <;> rfl
theorem e_argsNil {Q : List D × DEnv → Prop} : wE (argsD [] env) Q X kq kq = Q ([], env) := rfl
theorem e_argsCons {fs : List DE} {Q : List D × DEnv → Prop} : wE (argsD (f :: fs) env) Q X kq kq = wE (f env) (fun p => wE (argsD fs p.2) (fun q => Q (p.1.d :: q.1, q.2)) X kq kq) X kq kq := by
  rw [argsD, x_bind]
  refine wR_cg fun p => ?_
  rw [x_bind]
  rfl
theorem e_lst {fs : List DE} : wE (lstD fs env) Q X kq kq = wE (argsD fs env) (fun p => Q (.own (.lst p.1), p.2)) X kq kq := by
  unfold lstD
  rw [x_bind]
  rfl
theorem e_tup {fs : List DE} : wE (tupD fs env) Q X kq kq = wE (argsD fs env) (fun p => Q (.frz (.tup p.1), p.2)) X kq kq := by
  unfold tupD
  rw [x_bind]
  rfl
theorem e_callG {g : List D → Option Sl} {fs : List DE} : wE (callG g fs env) Q X kq kq = wE (argsD fs env) (fun p => oQ (g p.1) (fun z => Q (z, p.2)) kq) X kq kq := by
  unfold callG
  rw [x_bind]
  refine wR_cg fun p => ?_
  cases g p.1 <;> rfl
theorem e_call {g : DF} {fs : List DE} : wE (callD g fs env) Q X kq kq = wE (argsD fs env) (fun p => wE (g p.1) (fun q => Q (q.1, p.2)) (fun c _ => X c p.2) kq kq) X kq kq := by
  unfold callD
  rw [x_bind]
  refine wR_cg fun p => ?_
  cases g p.1 with
  | ok q => rfl
  | er c fs z => cases fs <;> rfl
  | no => rfl
theorem e_call0 {g : DF} {fs : List DE} : wE (call0D g fs env) Q X kq kq = wE (argsD fs env) (fun p => wE (g p.1) (fun q => Q (q.1, p.2)) (fun _ _ => False) kq kq) X kq kq := by
  unfold call0D
  rw [x_bind]
  refine wR_cg fun p => ?_
  cases g p.1 with
  | ok q => rfl
  | er c fs z => cases fs <;> rfl
  | no => rfl
theorem e_callK {g : DF} {sel : List Src} {dfs : List D} {fs kfs : List DE} : wE (callKD g sel dfs fs kfs env) Q X kq kq = wE (argsD fs env) (fun p => wE (argsD kfs p.2) (fun q => wE (g (pick sel p.1 q.1 dfs)) (fun r => Q (r.1, q.2)) (fun c _ => X c q.2) kq kq) X kq kq) X kq kq := by
  unfold callKD
  rw [x_bind]
  refine wR_cg fun p => ?_
  rw [x_bind]
  refine wR_cg fun q => ?_
  cases g (pick sel p.1 q.1 dfs) with
  | ok q => rfl
  | er c fs z => cases fs <;> rfl
  | no => rfl
theorem e_callB {g : DF} {i : Nat} {fs : List DE} : wE (callBD g i fs env) Q X kq kq = slQ env[i]? (fun _ => wE (argsD fs env) (fun p => slQ p.2[i]? (fun s => iQ s.mut (wE (g (s.d :: p.1)) (fun q => l1Q q.2 (fun d => eQ (p.2.set i (some (s.put d))) (fun e => Q (q.1, e)) kq) kq) (fun _ _ => False) kq kq) False kq kq) kq) X kq kq) kq := by
  unfold callBD slQ
  cases env[i]? with
  | none => rfl
  | some o =>
    cases o with
    | none => rfl
    | some s0 =>
      simp only
      rw [x_bind]
      refine wR_cg fun p => ?_
      cases p.2[i]? with
      | none => rfl
      | some o =>
        cases o with
        | none => rfl
        | some s =>
          simp only
          cases s.mut with
          | false => rfl
          | true =>
            cases g (s.d :: p.1) with
            | no => rfl
            | er c fs z => cases fs <;> rfl
            | ok q =>
              obtain ⟨r, l⟩ := q
              match l with
              | [] => rfl
              | [d] => rfl
              | _ :: _ :: _ => rfl
theorem e_ixN {i : Nat} : wE (ixND i fb env) Q X kq kq = slQ env[i]? (fun _ => wE (fb env) (fun q => slQ q.2[i]? (fun s => oQ s.val (fun d => oQ (gIx d q.1.d) (fun z => Q (z, q.2)) kq) kq) kq) X kq kq) kq := by
  unfold ixND slQ
  cases env[i]? with
  | none => rfl
  | some o =>
    cases o with
    | none => rfl
    | some s0 =>
      simp only
      rw [x_bind]
      refine wR_cg fun q => ?_
      cases q.2[i]? with
      | none => rfl
      | some o =>
        cases o with
        | none => rfl
        | some s =>
          simp only
          cases s.val with
          | none => rfl
          | some d =>
            simp only [oQ_s]
            cases gIx d q.1.d <;> rfl
theorem e_peek2 {g : D → D → Option Sl} {i : Nat} : wE (peek2 g i fb env) Q X kq kq = slQ env[i]? (fun _ => wE (fb env) (fun q => slQ q.2[i]? (fun s => oQ s.val (fun d => oQ (g d q.1.d) (fun z => Q (z, q.2)) kq) kq) kq) X kq kq) kq := by
  unfold peek2 slQ
  cases env[i]? with
  | none => rfl
  | some o =>
    cases o with
    | none => rfl
    | some s0 =>
      simp only
      rw [x_bind]
      refine wR_cg fun q => ?_
      cases q.2[i]? with
      | none => rfl
      | some o =>
        cases o with
        | none => rfl
        | some s =>
          simp only
          cases s.val with
          | none => rfl
          | some d =>
            simp only [oQ_s]
            cases g d q.1.d <;> rfl
theorem e_peekC {g : List D → Option Sl} {i : Nat} : wE (peekC g i env) Q X kq kq = slQ env[i]? (fun s => oQ s.val (fun d => oQ (g [d]) (fun z => Q (z, env)) kq) kq) kq := by
  unfold peekC slQ
  cases env[i]? with
  | none => rfl
  | some o =>
    cases o with
    | none => rfl
    | some s =>
      simp only
      cases s.val with
      | none => rfl
      | some d =>
        simp only [oQ_s]
        cases g [d] <;> rfl
theorem e_partN {Q : Option Int × DEnv → Prop} : wE (partN env) Q X kq kq = Q (none, env) := rfl
theorem e_part {Q : Option Int × DEnv → Prop} : wE (partD f env) Q X kq kq = wE (f env) (fun p => inQ p.1.d (fun i => Q (some i, p.2)) kq) X kq kq := by
  unfold partD
  rw [x_bind]
  refine wR_cg fun p => ?_
  cases p.1.d <;> rfl
theorem e_slice {fl fh : DO} : wE (sliceD fa fl fh env) Q X kq kq = wE (fa env) (fun p => wE (fl p.2) (fun q => wE (fh q.2) (fun r => oQ (gSl p.1.d q.1 r.1) (fun z => Q (z, r.2)) kq) X kq kq) X kq kq) X kq kq := by
  unfold sliceD
  rw [x_bind]
  refine wR_cg fun p => ?_
  rw [x_bind]
  refine wR_cg fun q => ?_
  rw [x_bind]
  refine wR_cg fun r => ?_
  cases gSl p.1.d q.1 r.1 <;> rfl
theorem tb_b {b : Bool} {K : Bool → Prop} : tbQ (some (.frz (.bl b))) K kq = K b := rfl
theorem e_chain {g g' : D → D → Option Sl} : wE (chainD g g' fa fb fc env) Q X kq kq = wE (fa env) (fun p => wE (fb p.2) (fun q => tbQ (g p.1.d q.1.d) (fun b => iQ b (wE (fc q.2) (fun r => tbQ (g' q.1.d r.1.d) (fun b => Q (.frz (.bl b), r.2)) kq) X kq kq) (Q (.frz (.bl false), q.2)) kq kq) kq) X kq kq) X kq kq := by
  unfold chainD
  rw [x_bind]
  refine wR_cg fun p => ?_
  rw [x_bind]
  refine wR_cg fun q => ?_
  generalize g p.1.d q.1.d = o
  match o with
  | none => rfl
  | some (.own _) => rfl
  | some (.bor _) => rfl
  | some (.exn _) => rfl
  | some (.frz d) =>
    cases d with
    | bl b =>
      cases b with
      | false => rfl
      | true =>
        simp only
        rw [x_bind]
        refine wR_cg fun r => ?_
        generalize g' q.1.d r.1.d = o
        match o with
        | none => rfl
        | some (.own _) => rfl
        | some (.bor _) => rfl
        | some (.exn _) => rfl
        | some (.frz d) => cases d <;> rfl
    | _ => rfl
theorem e_isT {ts : List String} : wE (isTD ts fa env) Q X kq kq = wE (fa env) (fun p => oQ (isiAny p.1.d ts) (fun b => Q (.frz (.bl b), p.2)) kq) X kq kq := by
  unfold isTD
  rw [x_bind]
  refine wR_cg fun p => ?_
  cases isiAny p.1.d ts <;> rfl
theorem ex_e {c : Str} {K : Str → Prop} : exQ (some (some (.exn c))) K kq = K c := rfl
theorem e_isE {i : Nat} {sub : Str → Option Bool} : wE (isED i sub env) Q X kq kq = exQ env[i]? (fun c => oQ (sub c) (fun b => Q (.frz (.bl b), env)) kq) kq := by
  unfold isED exQ
  cases env[i]? with
  | none => rfl
  | some o =>
    cases o with
    | none => rfl
    | some s =>
      cases s with
      | exn c =>
        simp only
        cases sub c <;> rfl
      | _ => rfl
theorem e_mut {g : List D → List D → Option (Sl × List D)} {i : Nat} {fs : List DE} : wE (mutD g i fs env) Q X kq kq = slQ env[i]? (fun s0 => iQ (s0.mut && isL s0.d) (wE (argsD fs env) (fun p => slQ p.2[i]? (fun s => iQ s.mut (lsQ s.d (fun ds => oQ (g ds p.1) (fun r => eQ (p.2.set i (some (s.put (.lst r.2)))) (fun e => Q (r.1, e)) kq) kq) kq) False kq kq) kq) X kq kq) False kq kq) kq := by
  unfold mutD slQ
  cases env[i]? with
  | none => rfl
  | some o =>
    cases o with
    | none => rfl
    | some s0 =>
      simp only
      cases hb : (s0.mut && isL s0.d) with
      | false => rfl
      | true =>
        simp only [if_true, iQ_t]
        rw [x_bind]
        refine wR_cg fun p => ?_
        cases p.2[i]? with
        | none => rfl
        | some o =>
          cases o with
          | none => rfl
          | some s =>
            simp only
            cases s.mut with
            | false => rfl
            | true =>
              cases hd : s.d with
              | lst ds =>
                simp only [iQ_t, ls_l]
                cases g ds p.1 <;> rfl
              | _ => rfl
theorem e_meth {g : List D → List D → Option Sl} {fs : List DE} : wE (methD g f fs env) Q X kq kq = wE (f env) (fun p => lsQ p.1.d (fun zs => wE (argsD fs p.2) (fun q => oQ (g zs q.1) (fun s => Q (s, q.2)) kq) X kq kq) kq) X kq kq := by
  unfold methD
  rw [x_bind]
  refine wR_cg fun p => ?_
  cases p.1.d with
  | lst zs =>
    simp only [ls_l]
    rw [x_bind]
    refine wR_cg fun q => ?_
    cases g zs q.1 <;> rfl
  | _ => rfl
theorem e_noDict : wE (noDictD env) Q X kq kq = Q (.frz (.dK [] []), env) := rfl
theorem e_attr {tab : Str → Bool} {x : Str} {g : DE} : wE (attrD tab x g env) Q X kq kq = wE (g env) (fun p => oQ (gAttr tab x p.1.d) (fun z => Q (z, p.2)) kq) X kq kq := e_lift1
theorem e_lstRg : wE (lstRgD f env) Q X kq kq = wE (f env) (fun p => inQ p.1.d (fun n => iQ (decide (0 ≤ n ∧ n ≤ 16777216)) (Q (.own (.lst (rangeL 0 n.toNat)), p.2)) False kq kq) kq) X kq kq := by
  unfold lstRgD
  rw [x_bind]
  refine wR_cg fun p => ?_
  cases p.1.d with
  | int n =>
    simp only [in_i]
    by_cases h : 0 ≤ n ∧ n ≤ 16777216
    · rw [if_pos h, decide_eq_true h]; rfl
    · rw [if_neg h, decide_eq_false h]; rfl
  | _ => rfl
theorem nw_n {d : D} {K : D → Prop} : nwQ (.frz .non, [d]) K kq = K d := rfl
theorem e_new {g : DF} {c : Str} {ds : List D} : wE (newD g c ds env) Q X kq kq = wE (g (.obj c [] [] :: ds)) (fun r => nwQ r (fun d => Q (.own d, env)) kq) (fun _ _ => False) kq kq := by
  unfold newD
  cases g (.obj c [] [] :: ds) with
  | no => rfl
  | er c fs z => cases fs <;> rfl
  | ok q =>
    obtain ⟨r, l⟩ := q
    match r, l with
    | .own _, l => rfl
    | .bor _, l => rfl
    | .exn _, l => rfl
    | .frz d, l =>
      match d, l with
      | .non, [] => rfl
      | .non, [d] => rfl
      | .non, _ :: _ :: _ => rfl
      | .bl _, _ => rfl
      | .int _, _ => rfl
      | .str _, _ => rfl
      | .lst _, _ => rfl
      | .tup _, _ => rfl
      | .scr _, _ => rfl
      | .dK _ _, _ => rfl
      | .dT _ _, _ => rfl
      | .obj _ _ _, _ => rfl
      | .ty _, _ => rfl
      | .cls _, _ => rfl
theorem e_makeK {g : DF} {c : Str} {pk : List D → List D} {kfs : List DE} : wE (makeKD g c pk kfs env) Q X kq kq = wE (argsD kfs env) (fun q => eQ (pk q.1) (fun ds => wE (newD g c ds q.2) Q X kq kq) kq) X kq kq := by
  unfold makeKD
  rw [x_bind]
  rfl
/-! statements -/
variable {T : Out → Prop} {g g1 g2 : DS}
theorem e_next : wE (nextD env) T X kq kq = T (.nx env) := rfl
theorem e_brk : wE (brkD env) T X kq kq = T (.bk env) := rfl
theorem e_cont : wE (contD env) T X kq kq = T (.ct env) := rfl
theorem e_seq : wE (seqD g1 g2 env) T X kq kq = wE (g1 env) (thenS (fun e => wE (g2 e) T X kq kq) T) X kq kq := by
  unfold seqD
  cases e : g1 env with
  | ok o => cases o <;> rfl
  | er c fs z => cases fs <;> rfl
  | no => rfl
theorem e_expr : wE (exprD f env) T X kq kq = wE (f env) (fun p => T (.nx p.2)) X kq kq := by
  unfold exprD
  rw [x_bindS]
  rfl
theorem e_ret : wE (retD f env) T X kq kq = wE (f env) (fun p => T (.rt p.1 p.2)) X kq kq := by
  unfold retD
  rw [x_bindS]
  rfl
theorem e_retN : wE (retND env) T X kq kq = T (.rt (.frz .non) env) := rfl
theorem e_retName {i : Nat} : wE (retNameD i env) T X kq kq = rnQ env[i]? i env T kq := by
  unfold retNameD rnQ
  cases env[i]? with
  | none => rfl
  | some o =>
    cases o with
    | none => rfl
    | some s => cases s <;> rfl
theorem e_if {c : DT} : wE (ifD c g1 g2 env) T X kq kq = wE (c env) (fun p => iQ p.1 (wE (g1 p.2) T X kq kq) (wE (g2 p.2) T X kq kq) kq kq) X kq kq := by
  unfold ifD
  rw [x_bindS]
  refine wR_cg fun p => ?_
  cases p.1 <;> rfl
theorem e_set {i : Nat} : wE (setD i f env) T X kq kq = wE (f env) (fun p => eQ (p.2.set i (some p.1)) (fun e => T (.nx e)) kq) X kq kq := by
  unfold setD
  rw [x_bindS]
  rfl
theorem e_asg {gg : DG} : wE (asgD gg f env) T X kq kq = wE (f env) (fun p => oQ (gg p.1.d p.2) (fun e => T (.nx e)) kq) X kq kq := by
  unfold asgD
  rw [x_bindS]
  refine wR_cg fun p => ?_
  cases gg p.1.d p.2 <;> rfl
theorem fz_f {d : D} {K : D → Prop} : fzQ (some (some (.frz d))) K kq = K d := rfl
theorem e_aug {gg : D → D → Option Sl} {i : Nat} : wE (augD gg i f env) T X kq kq = fzQ env[i]? (fun d => wE (f env) (fun p => oQ (gg d p.1.d) (fun s => eQ (p.2.set i (some s)) (fun e => T (.nx e)) kq) kq) X kq kq) kq := by
  unfold augD fzQ
  cases env[i]? with
  | none => rfl
  | some o =>
    cases o with
    | none => rfl
    | some s =>
      cases s with
      | frz d =>
        simp only
        rw [x_bindS]
        refine wR_cg fun p => ?_
        cases gg d p.1.d <;> rfl
      | _ => rfl
theorem e_par {i j : Nat} {fs : List DE} : wE (parD i j fs env) T X kq kq = wE (argsD fs env) (fun p => l2Q p.1 (fun a b => eQ ((p.2.set i (some (.frz a))).set j (some (.frz b))) (fun e => T (.nx e)) kq) kq) X kq kq := by
  unfold parD
  rw [x_bindS]
  refine wR_cg fun p => ?_
  match p.1 with
  | [] => rfl
  | [_] => rfl
  | [_, _] => rfl
  | _ :: _ :: _ :: _ => rfl
theorem e_raise {c : Str} : wE (raiseD c env) T X kq kq = X c env := rfl
theorem e_for {fi : DI} {gg : DG} {gb : DS} : wE (forS fi gg gb env) T X kq kq = wE (fi env) (fun p => wE (forD gg gb p.1 p.2) T X kq kq) X kq kq := by
  unfold forS
  rw [x_bindS]
theorem e_iterE {Q : List D × DEnv → Prop} : wE (iterE f env) Q X kq kq = wE (f env) (fun p => oQ (iterOf p.1.d) (fun ds => Q (ds, p.2)) kq) X kq kq := by
  unfold iterE
  rw [x_bind]
  refine wR_cg fun p => ?_
  cases iterOf p.1.d <;> rfl
theorem e_iterG {gi : List D → Option (List D)} {fs : List DE} {Q : List D × DEnv → Prop} : wE (iterG gi fs env) Q X kq kq = wE (argsD fs env) (fun p => oQ (gi p.1) (fun ds => Q (ds, p.2)) kq) X kq kq := by
  unfold iterG
  rw [x_bind]
  refine wR_cg fun p => ?_
  cases gi p.1 <;> rfl
theorem e_forNil {gg : DG} {gb : DS} : wE (forD gg gb [] env) T X kq kq = T (.nx env) := rfl
theorem e_forCons {gg : DG} {gb : DS} {ds : List D} : wE (forD gg gb (d :: ds) env) T X kq kq = oQ (gg d env) (fun e => wE (gb e) (loopT (fun e => wE (forD gg gb ds e) T X kq kq) T) X kq kq) kq := by
  rw [forD]
  cases gg d env with
  | none => rfl
  | some e =>
    simp only [oQ_s]
    cases gb e with
    | no => rfl
    | er c fs z => cases fs <;> rfl
    | ok o => cases o <;> rfl
theorem e_comp {fi : DI} {gg : DG} {tt : DT} {te : DE} {vs zs : List Nat} : wE (compD fi gg tt te vs zs env) Q X kq kq = wE (fi env) (fun p => eQ (wipeE (frzE p.2 zs) vs) (fun e => wE (lcD gg tt te vs p.1 [] e) (fun q => Q (.own (.lst q.1), q.2)) (fun _ _ => False) kq kq) kq) X kq kq := by
  unfold compD
  rw [x_bind]
  refine wR_cg fun p => ?_
  show _ = wE (lcD gg tt te vs p.1 [] (wipeE (frzE p.2 zs) vs)) _ _ kq kq
  cases lcD gg tt te vs p.1 [] (wipeE (frzE p.2 zs) vs) with
  | no => rfl
  | er c fs z => cases fs <;> rfl
  | ok o => rfl
theorem e_lcNil {gg : DG} {tt : DT} {te : DE} {vs : List Nat} {acc : List D} {Q : List D × DEnv → Prop} : wE (lcD gg tt te vs [] acc env) Q X kq kq = Q (acc, env) := rfl
theorem e_lcCons {gg : DG} {tt : DT} {te : DE} {vs : List Nat} {acc ds : List D} {Q : List D × DEnv → Prop} : wE (lcD gg tt te vs (d :: ds) acc env) Q X kq kq = eQ (lendE env) (fun e0 => oQ (gg d e0) (fun e => wE (tt e) (fun p => iQ p.1 (wE (te p.2) (fun q => eQ (backE env (wipeE q.2 vs)) (fun e => iQ (decide (acc.length < lim)) (wE (lcD gg tt te vs ds (acc ++ [q.1.d]) e) Q X kq kq) False kq kq) kq) (fun _ _ => False) kq kq) (eQ (backE env (wipeE p.2 vs)) (fun e => wE (lcD gg tt te vs ds acc e) Q X kq kq) kq) kq kq) (fun _ _ => False) kq kq) kq) kq := by
  rw [lcD, eQ]
  cases gg d (lendE env) with
  | none => rfl
  | some e =>
    simp only [oQ_s, eQ]
    cases tt e with
    | no => rfl
    | er c fs z => cases fs <;> rfl
    | ok p =>
      obtain ⟨b, e1⟩ := p
      cases b with
      | false => rfl
      | true =>
        simp only [bind0_ok, wR_okE, iQ_t]
        cases te e1 with
        | no => rfl
        | er c fs z => cases fs <;> rfl
        | ok q =>
          simp only [bind0_ok, wR_okE]
          by_cases h : acc.length < lim
          · rw [if_pos h, decide_eq_true h]; rfl
          · rw [if_neg h, decide_eq_false h]; rfl
/-! defs -/
theorem e_body {n : Nat} {ds : List D} {Q : Sl × List D → Prop} {X : Str → List D → Prop} : wE (bodyF n g ds) Q X kq kq = eQ (env0 n ds) (fun e => wE (g e) (outQ Q) (fun c _ => X c []) kq kq) kq := by
  show wE (outF (g (env0 n ds))) _ _ kq kq = wE (g (env0 n ds)) _ _ kq kq
  cases g (env0 n ds) with
  | no => rfl
  | er c fs z => cases fs <;> rfl
  | ok o => cases o <;> rfl
theorem e_bodyB {n : Nat} {ds : List D} {Q : Sl × List D → Prop} {X : Str → List D → Prop} : wE (bodyB n g ds) Q X kq kq = eQ (envB n ds) (fun e => wE (g e) (outBQ Q) (fun _ _ => False) kq kq) kq := by
  show wE (outB (g (envB n ds))) _ _ kq kq = wE (g (envB n ds)) _ _ kq kq
  cases g (envB n ds) with
  | no => rfl
  | er c fs z => cases fs <;> rfl
  | ok o =>
    cases o with
    | rt s e =>
      simp only [wR_okE, outBQ, outB, e0Q]
      cases e[0]? with
      | none => rfl
      | some o =>
        cases o with
        | none => rfl
        | some s => cases s <;> rfl
    | nx e =>
      simp only [wR_okE, outBQ, outB, e0Q]
      cases e[0]? with
      | none => rfl
      | some o =>
        cases o with
        | none => rfl
        | some s => cases s <;> rfl
    | _ => rfl
/-! data -/
theorem wp_n : wipeE env [] = env := rfl
theorem wp_c {v : Nat} {vs : List Nat} : wipeE env (v :: vs) = (wipeE env vs).set v none := rfl
def fzE (env : DEnv) (z : Nat) (o : Option (Option Sl)) : DEnv := match o with
  | some (some (.own d)) => env.set z (some (.frz d))
  | _ => env
theorem fr_n : frzE env [] = env := rfl
theorem fr_c {z : Nat} {zs : List Nat} : frzE env (z :: zs) = fzE (frzE env zs) z (frzE env zs)[z]? := by
  show (match (frzE env zs)[z]? with
    | some (some (Sl.own d)) => (frzE env zs).set z (some (.frz d))
    | _ => frzE env zs) = _
  rfl
theorem fzE_o {z : Nat} : fzE env z (some (some (.own d))) = env.set z (some (.frz d)) := rfl
theorem fzE_f {z : Nat} : fzE env z (some (some (.frz d))) = env := rfl
theorem fzE_b {z : Nat} : fzE env z (some (some (.bor d))) = env := rfl
theorem fzE_n {z : Nat} : fzE env z (some none) = env := rfl
theorem le_n : lendE [] = [] := rfl
theorem le_c {o : Option Sl} : lendE (o :: env) = lend o :: lendE env := rfl
theorem ld_o : lend (some (.own d)) = some (.bor d) := rfl
theorem ld_f : lend (some (.frz d)) = some (.frz d) := rfl
theorem ld_b : lend (some (.bor d)) = some (.bor d) := rfl
theorem ld_n : lend none = none := rfl
theorem ba_n : backE [] [] = [] := rfl
theorem ba_c {o o' : Option Sl} {e' : DEnv} : backE (o :: env) (o' :: e') = back o o' :: backE env e' := rfl
theorem bk_o {d' : D} : back (some (.own d)) (some (.bor d')) = some (.own d') := rfl
theorem bk_b {d' : D} : back (some (.bor d)) (some (.bor d')) = some (.bor d') := rfl
theorem bk_f {o : Option Sl} : back o (some (.frz d)) = some (.frz d) := by
  cases o with
  | none => rfl
  | some s => cases s <;> rfl
theorem bk_n {o : Option Sl} : back o none = none := by
  cases o with
  | none => rfl
  | some s => cases s <;> rfl
def conO {α : Type} (o : Option α) (l : List α) : List α := match o with
  | some a => a :: l
  | none => l
theorem co_s {α : Type} {a : α} {l : List α} : conO (some a) l = a :: l := rfl
theorem pk_n {as bs cs : List D} : pick [] as bs cs = [] := rfl
theorem pk_a {i : Nat} {sel : List Src} {as bs cs : List D} : pick (.a i :: sel) as bs cs = conO as[i]? (pick sel as bs cs) := by
  unfold pick
  rw [List.filterMap_cons]
  have e : Src.get as bs cs (.a i) = as[i]? := rfl
  rw [e]
  cases as[i]? <;> rfl
theorem pk_b {i : Nat} {sel : List Src} {as bs cs : List D} : pick (.b i :: sel) as bs cs = conO bs[i]? (pick sel as bs cs) := by
  unfold pick
  rw [List.filterMap_cons]
  have e : Src.get as bs cs (.b i) = bs[i]? := rfl
  rw [e]
  cases bs[i]? <;> rfl
theorem pk_c {i : Nat} {sel : List Src} {as bs cs : List D} : pick (.c i :: sel) as bs cs = conO cs[i]? (pick sel as bs cs) := by
  unfold pick
  rw [List.filterMap_cons]
  have e : Src.get as bs cs (.c i) = cs[i]? := rfl
  rw [e]
  cases cs[i]? <;> rfl
theorem en_0 {n : Nat} {ds : List D} : env0 n ds = ds.map (fun d => some (.frz d)) ++ List.replicate (n - ds.length) none := rfl
theorem en_B {n : Nat} {ds : List D} : envB n (d :: ds) = some (.bor d) :: (ds.map (fun d => some (.frz d)) ++ List.replicate (n - (ds.length + 1)) none) := rfl
theorem tg_n {i : Nat} : gNameD i d env = some (env.set i (some (.frz d))) := rfl
theorem tg_t {n : Nat} {gs : List D → DEnv → Option DEnv} {ds : List D} : gTupD n gs (.tup ds) env = if ds.length = n then gs ds env else none := rfl
theorem tg_0 : gNilD [] env = some env := rfl
theorem tg_c {g : DG} {gs : List D → DEnv → Option DEnv} {ds : List D} : gConsD g gs (d :: ds) env = (g d env).bind (gs ds) := by
  rw [gConsD]
  cases g d env <;> rfl
theorem gLen_l {ds : List D} : gLen [.lst ds] = some (.frz (.int ds.length)) := rfl
theorem gLen_t {ds : List D} : gLen [.tup ds] = some (.frz (.int ds.length)) := rfl
theorem gIs_n {n : Bool} : gIs n d .non = some (.frz (.bl (n != isN d))) := rfl
theorem isN_n : isN .non = true := rfl
theorem isN_b {b : Bool} : isN (.bl b) = false := rfl
theorem isN_i {b : Int} : isN (.int b) = false := rfl
theorem isN_s {b : Str} : isN (.str b) = false := rfl
theorem isN_l {b : List D} : isN (.lst b) = false := rfl
theorem isN_t {b : List D} : isN (.tup b) = false := rfl
theorem isN_o {c : Str} {ks : List Str} {ds : List D} : isN (.obj c ks ds) = false := rfl
theorem isN_dK {ks : List Key} {ds : List D} : isN (.dK ks ds) = false := rfl
theorem isN_dT {ks : List (List Key)} {ds : List D} : isN (.dT ks ds) = false := rfl
theorem it_l {ds : List D} : iterOf (.lst ds) = some ds := rfl
theorem it_t {ds : List D} : iterOf (.tup ds) = some ds := rfl
theorem at_o {tab : Str → Bool} {f c : Str} {ks : List Str} {ds : List D} : gAttr tab f (.obj c ks ds) = if tab c then ((ks.zip ds).lookup f).map .frz else none := rfl
theorem gApp_ok {ds : List D} {e : D} (h : ds.length < 16000000) : gAppend ds [e] = some (.frz .non, ds ++ [e]) := if_pos h
theorem gT_l {ds : List D} : gTuple [.lst ds] = some (.frz (.tup ds)) := rfl
theorem gT_t {ds : List D} : gTuple [.tup ds] = some (.frz (.tup ds)) := rfl
theorem gL_l {ds : List D} : gList [.lst ds] = some (.own (.lst ds)) := rfl
theorem gL_t {ds : List D} : gList [.tup ds] = some (.own (.lst ds)) := rfl
end
end Dd

namespace Dd
open PySem PySem.Spec PyProof.Rows L2
/-! kinds told -/
theorem ib_non_int  : isiB .non "int" = some false := by with_unfolding_all rfl
theorem ib_non_bool  : isiB .non "bool" = some false := by with_unfolding_all rfl
theorem ib_non_str  : isiB .non "str" = some false := by with_unfolding_all rfl
theorem ib_non_list  : isiB .non "list" = some false := by with_unfolding_all rfl
theorem ib_non_tuple  : isiB .non "tuple" = some false := by with_unfolding_all rfl
theorem ib_non_dict  : isiB .non "dict" = some false := by with_unfolding_all rfl
theorem ib_bl_int {b : Bool} : isiB (.bl b) "int" = some true := by with_unfolding_all rfl
theorem ib_bl_bool {b : Bool} : isiB (.bl b) "bool" = some true := by with_unfolding_all rfl
theorem ib_bl_str {b : Bool} : isiB (.bl b) "str" = some false := by with_unfolding_all rfl
theorem ib_bl_list {b : Bool} : isiB (.bl b) "list" = some false := by with_unfolding_all rfl
theorem ib_bl_tuple {b : Bool} : isiB (.bl b) "tuple" = some false := by with_unfolding_all rfl
theorem ib_bl_dict {b : Bool} : isiB (.bl b) "dict" = some false := by with_unfolding_all rfl
theorem ib_int_int {b : Int} : isiB (.int b) "int" = some true := by with_unfolding_all rfl
theorem ib_int_bool {b : Int} : isiB (.int b) "bool" = some false := by with_unfolding_all rfl
theorem ib_int_str {b : Int} : isiB (.int b) "str" = some false := by with_unfolding_all rfl
theorem ib_int_list {b : Int} : isiB (.int b) "list" = some false := by with_unfolding_all rfl
theorem ib_int_tuple {b : Int} : isiB (.int b) "tuple" = some false := by with_unfolding_all rfl
theorem ib_int_dict {b : Int} : isiB (.int b) "dict" = some false := by with_unfolding_all rfl
theorem ib_str_int {b : Str} : isiB (.str b) "int" = some false := by with_unfolding_all rfl
theorem ib_str_bool {b : Str} : isiB (.str b) "bool" = some false := by with_unfolding_all rfl
theorem ib_str_str {b : Str} : isiB (.str b) "str" = some true := by with_unfolding_all rfl
theorem ib_str_list {b : Str} : isiB (.str b) "list" = some false := by with_unfolding_all rfl
theorem ib_str_tuple {b : Str} : isiB (.str b) "tuple" = some false := by with_unfolding_all rfl
theorem ib_str_dict {b : Str} : isiB (.str b) "dict" = some false := by with_unfolding_all rfl
theorem ib_lst_int {b : List D} : isiB (.lst b) "int" = some false := by with_unfolding_all rfl
theorem ib_lst_bool {b : List D} : isiB (.lst b) "bool" = some false := by with_unfolding_all rfl
theorem ib_lst_str {b : List D} : isiB (.lst b) "str" = some false := by with_unfolding_all rfl
theorem ib_lst_list {b : List D} : isiB (.lst b) "list" = some true := by with_unfolding_all rfl
theorem ib_lst_tuple {b : List D} : isiB (.lst b) "tuple" = some false := by with_unfolding_all rfl
theorem ib_lst_dict {b : List D} : isiB (.lst b) "dict" = some false := by with_unfolding_all rfl
theorem ib_tup_int {b : List D} : isiB (.tup b) "int" = some false := by with_unfolding_all rfl
theorem ib_tup_bool {b : List D} : isiB (.tup b) "bool" = some false := by with_unfolding_all rfl
theorem ib_tup_str {b : List D} : isiB (.tup b) "str" = some false := by with_unfolding_all rfl
theorem ib_tup_list {b : List D} : isiB (.tup b) "list" = some false := by with_unfolding_all rfl
theorem ib_tup_tuple {b : List D} : isiB (.tup b) "tuple" = some true := by with_unfolding_all rfl
theorem ib_tup_dict {b : List D} : isiB (.tup b) "dict" = some false := by with_unfolding_all rfl
theorem ib_dK_int {k : List Key} {b : List D} : isiB (.dK k b) "int" = some false := by with_unfolding_all rfl
theorem ib_dK_bool {k : List Key} {b : List D} : isiB (.dK k b) "bool" = some false := by with_unfolding_all rfl
theorem ib_dK_str {k : List Key} {b : List D} : isiB (.dK k b) "str" = some false := by with_unfolding_all rfl
theorem ib_dK_list {k : List Key} {b : List D} : isiB (.dK k b) "list" = some false := by with_unfolding_all rfl
theorem ib_dK_tuple {k : List Key} {b : List D} : isiB (.dK k b) "tuple" = some false := by with_unfolding_all rfl
theorem ib_dK_dict {k : List Key} {b : List D} : isiB (.dK k b) "dict" = some true := by with_unfolding_all rfl
theorem ib_dT_int {k : List (List Key)} {b : List D} : isiB (.dT k b) "int" = some false := by with_unfolding_all rfl
theorem ib_dT_bool {k : List (List Key)} {b : List D} : isiB (.dT k b) "bool" = some false := by with_unfolding_all rfl
theorem ib_dT_str {k : List (List Key)} {b : List D} : isiB (.dT k b) "str" = some false := by with_unfolding_all rfl
theorem ib_dT_list {k : List (List Key)} {b : List D} : isiB (.dT k b) "list" = some false := by with_unfolding_all rfl
theorem ib_dT_tuple {k : List (List Key)} {b : List D} : isiB (.dT k b) "tuple" = some false := by with_unfolding_all rfl
theorem ib_dT_dict {k : List (List Key)} {b : List D} : isiB (.dT k b) "dict" = some true := by with_unfolding_all rfl
theorem ib_scr_int {b : List Int} : isiB (.scr b) "int" = some false := by with_unfolding_all rfl
theorem ib_scr_bool {b : List Int} : isiB (.scr b) "bool" = some false := by with_unfolding_all rfl
theorem ib_scr_str {b : List Int} : isiB (.scr b) "str" = some false := by with_unfolding_all rfl
theorem ib_scr_list {b : List Int} : isiB (.scr b) "list" = some true := by with_unfolding_all rfl
theorem ib_scr_tuple {b : List Int} : isiB (.scr b) "tuple" = some false := by with_unfolding_all rfl
theorem ib_scr_dict {b : List Int} : isiB (.scr b) "dict" = some false := by with_unfolding_all rfl
theorem gIsi_e {d : D} {t : String} : gIsi [d, .ty t] = (isiB d t).map fun b => .frz (.bl b) := rfl
theorem gIsi1_e {d : D} {t : String} : gIsi1 t [d] = (isiB d t).map fun b => .frz (.bl b) := rfl
theorem ia_n {d : D} : isiAny d [] = some false := rfl
theorem ia_t {d : D} {t : String} {r : List String} (h : isiB d t = some true) : isiAny d (t :: r) = some true := by rw [isiAny, h]
theorem ia_f {d : D} {t : String} {r : List String} (h : isiB d t = some false) : isiAny d (t :: r) = isiAny d r := by rw [isiAny, h]
theorem gEq_str {n : Bool} {a b : Str} (ha : PyData.strOk a = true) (hb : PyData.strOk b = true) : gEq n (.str a) (.str b) = some (.frz (.bl (n != decide (a = b)))) := by
  rw [gEq_of ((Pl.str (n := 0) ha).plain (by decide)) ((Pl.str (n := 0) hb).plain (by decide))]
  have e : pyEq (.str a) (.str b) = decide (a = b) := by
    unfold pyEq toPy PyData.eqv
    exact Bool.eq_iff_iff.mpr (by simp)
  rw [e]
theorem gIn_sg {n : Bool} {c : Nat} {z : Str} : gIn n (.str ⟨#[c]⟩) (.str z) = some (.frz (.bl (n != decide (c ∈ z.cps.toList)))) := rfl
theorem signs_len {z : Str} : (Dd.signs z).length = z.length := by
  unfold Dd.signs
  rw [List.length_map]
  rfl
theorem signs_mem {z : Str} {d : D} (h : d ∈ Dd.signs z) : ∃ c ∈ z.cps.toList, d = .str ⟨#[c]⟩ := by
  obtain ⟨c, hc, e⟩ := List.mem_map.mp h
  exact ⟨c, hc, e.symm⟩
theorem signs_map {α : Type} {z : Str} (f : D → α) : (Dd.signs z).map f = z.cps.toList.map fun c => f (.str ⟨#[c]⟩) := by
  unfold Dd.signs
  rw [List.map_map]
  rfl
theorem it_s {z : Str} : iterOf (.str z) = some (Dd.signs z) := rfl
theorem gIx_t0 {ds : List D} : gIx (.tup ds) (.int 0) = (ds[0]?).map .frz := by
  show (atI ds 0).map _ = _
  unfold atI ixN
  rw [if_pos (by decide)]
  by_cases h : (0 : Int) < ds.length
  · rw [if_pos h]; rfl
  · rw [if_neg h, List.getElem?_eq_none (by omega)]; rfl
theorem gIx_t1 {ds : List D} : gIx (.tup ds) (.int 1) = (ds[1]?).map .frz := by
  show (atI ds 1).map _ = _
  unfold atI ixN
  rw [if_pos (by decide)]
  by_cases h : (1 : Int) < ds.length
  · rw [if_pos h]; rfl
  · rw [if_neg h, List.getElem?_eq_none (by omega)]; rfl
theorem gIx_t2 {ds : List D} : gIx (.tup ds) (.int 2) = (ds[2]?).map .frz := by
  show (atI ds 2).map _ = _
  unfold atI ixN
  rw [if_pos (by decide)]
  by_cases h : (2 : Int) < ds.length
  · rw [if_pos h]; rfl
  · rw [if_neg h, List.getElem?_eq_none (by omega)]; rfl
theorem gIx_t3 {ds : List D} : gIx (.tup ds) (.int 3) = (ds[3]?).map .frz := by
  show (atI ds 3).map _ = _
  unfold atI ixN
  rw [if_pos (by decide)]
  by_cases h : (3 : Int) < ds.length
  · rw [if_pos h]; rfl
  · rw [if_neg h, List.getElem?_eq_none (by omega)]; rfl
theorem gIx_t4 {ds : List D} : gIx (.tup ds) (.int 4) = (ds[4]?).map .frz := by
  show (atI ds 4).map _ = _
  unfold atI ixN
  rw [if_pos (by decide)]
  by_cases h : (4 : Int) < ds.length
  · rw [if_pos h]; rfl
  · rw [if_neg h, List.getElem?_eq_none (by omega)]; rfl
theorem gIx_t5 {ds : List D} : gIx (.tup ds) (.int 5) = (ds[5]?).map .frz := by
  show (atI ds 5).map _ = _
  unfold atI ixN
  rw [if_pos (by decide)]
  by_cases h : (5 : Int) < ds.length
  · rw [if_pos h]; rfl
  · rw [if_neg h, List.getElem?_eq_none (by omega)]; rfl
theorem gIx_t6 {ds : List D} : gIx (.tup ds) (.int 6) = (ds[6]?).map .frz := by
  show (atI ds 6).map _ = _
  unfold atI ixN
  rw [if_pos (by decide)]
  by_cases h : (6 : Int) < ds.length
  · rw [if_pos h]; rfl
  · rw [if_neg h, List.getElem?_eq_none (by omega)]; rfl
theorem gIx_t7 {ds : List D} : gIx (.tup ds) (.int 7) = (ds[7]?).map .frz := by
  show (atI ds 7).map _ = _
  unfold atI ixN
  rw [if_pos (by decide)]
  by_cases h : (7 : Int) < ds.length
  · rw [if_pos h]; rfl
  · rw [if_neg h, List.getElem?_eq_none (by omega)]; rfl
theorem gIx_t8 {ds : List D} : gIx (.tup ds) (.int 8) = (ds[8]?).map .frz := by
  show (atI ds 8).map _ = _
  unfold atI ixN
  rw [if_pos (by decide)]
  by_cases h : (8 : Int) < ds.length
  · rw [if_pos h]; rfl
  · rw [if_neg h, List.getElem?_eq_none (by omega)]; rfl
theorem gIx_t9 {ds : List D} : gIx (.tup ds) (.int 9) = (ds[9]?).map .frz := by
  show (atI ds 9).map _ = _
  unfold atI ixN
  rw [if_pos (by decide)]
  by_cases h : (9 : Int) < ds.length
  · rw [if_pos h]; rfl
  · rw [if_neg h, List.getElem?_eq_none (by omega)]; rfl
theorem gIx_l0 {ds : List D} : gIx (.lst ds) (.int 0) = (ds[0]?).map .frz := by
  show (atI ds 0).map _ = _
  unfold atI ixN
  rw [if_pos (by decide)]
  by_cases h : (0 : Int) < ds.length
  · rw [if_pos h]; rfl
  · rw [if_neg h, List.getElem?_eq_none (by omega)]; rfl
theorem gIx_l1 {ds : List D} : gIx (.lst ds) (.int 1) = (ds[1]?).map .frz := by
  show (atI ds 1).map _ = _
  unfold atI ixN
  rw [if_pos (by decide)]
  by_cases h : (1 : Int) < ds.length
  · rw [if_pos h]; rfl
  · rw [if_neg h, List.getElem?_eq_none (by omega)]; rfl
theorem gIx_l2 {ds : List D} : gIx (.lst ds) (.int 2) = (ds[2]?).map .frz := by
  show (atI ds 2).map _ = _
  unfold atI ixN
  rw [if_pos (by decide)]
  by_cases h : (2 : Int) < ds.length
  · rw [if_pos h]; rfl
  · rw [if_neg h, List.getElem?_eq_none (by omega)]; rfl
theorem gIx_l3 {ds : List D} : gIx (.lst ds) (.int 3) = (ds[3]?).map .frz := by
  show (atI ds 3).map _ = _
  unfold atI ixN
  rw [if_pos (by decide)]
  by_cases h : (3 : Int) < ds.length
  · rw [if_pos h]; rfl
  · rw [if_neg h, List.getElem?_eq_none (by omega)]; rfl
theorem gIx_l4 {ds : List D} : gIx (.lst ds) (.int 4) = (ds[4]?).map .frz := by
  show (atI ds 4).map _ = _
  unfold atI ixN
  rw [if_pos (by decide)]
  by_cases h : (4 : Int) < ds.length
  · rw [if_pos h]; rfl
  · rw [if_neg h, List.getElem?_eq_none (by omega)]; rfl
theorem gIx_l5 {ds : List D} : gIx (.lst ds) (.int 5) = (ds[5]?).map .frz := by
  show (atI ds 5).map _ = _
  unfold atI ixN
  rw [if_pos (by decide)]
  by_cases h : (5 : Int) < ds.length
  · rw [if_pos h]; rfl
  · rw [if_neg h, List.getElem?_eq_none (by omega)]; rfl
theorem gIx_l6 {ds : List D} : gIx (.lst ds) (.int 6) = (ds[6]?).map .frz := by
  show (atI ds 6).map _ = _
  unfold atI ixN
  rw [if_pos (by decide)]
  by_cases h : (6 : Int) < ds.length
  · rw [if_pos h]; rfl
  · rw [if_neg h, List.getElem?_eq_none (by omega)]; rfl
theorem gIx_l7 {ds : List D} : gIx (.lst ds) (.int 7) = (ds[7]?).map .frz := by
  show (atI ds 7).map _ = _
  unfold atI ixN
  rw [if_pos (by decide)]
  by_cases h : (7 : Int) < ds.length
  · rw [if_pos h]; rfl
  · rw [if_neg h, List.getElem?_eq_none (by omega)]; rfl
theorem gIx_l8 {ds : List D} : gIx (.lst ds) (.int 8) = (ds[8]?).map .frz := by
  show (atI ds 8).map _ = _
  unfold atI ixN
  rw [if_pos (by decide)]
  by_cases h : (8 : Int) < ds.length
  · rw [if_pos h]; rfl
  · rw [if_neg h, List.getElem?_eq_none (by omega)]; rfl
theorem gIx_l9 {ds : List D} : gIx (.lst ds) (.int 9) = (ds[9]?).map .frz := by
  show (atI ds 9).map _ = _
  unfold atI ixN
  rw [if_pos (by decide)]
  by_cases h : (9 : Int) < ds.length
  · rw [if_pos h]; rfl
  · rw [if_neg h, List.getElem?_eq_none (by omega)]; rfl
theorem gIx_lm {ds : List D} {d : D} : gIx (.lst (ds ++ [d])) (.int (-1)) = some (.frz d) := by
  show (atI (ds ++ [d]) (-1)).map _ = _
  unfold atI ixN
  rw [if_neg (by decide), if_pos (by simp only [List.length_append, List.length_cons, List.length_nil]; omega)]
  have e : ((-1 : Int) + ((ds ++ [d]).length : Nat)).toNat = ds.length := by simp only [List.length_append, List.length_cons, List.length_nil]; omega
  rw [e, Option.bind_some, List.getElem?_append_right (Nat.le_refl _), Nat.sub_self]
  rfl
theorem gMod_if {i j : Int} (h : 0 < j) : gMod (.int i) (.int j) = some (.frz (.int (i % j))) := gMod_ok h
theorem gDiv_if {i j : Int} (h : 0 < j) (h2 : j < 1267650600228229401496703205376) : gDiv (.int i) (.int j) = some (.frz (.int (i / j))) := gDiv_ok h h2
theorem gMul_if {i j : Int} (h : -18446744073709551616 < j) (h2 : j < 18446744073709551616) : gMul (.int i) (.int j) = some (.frz (.int (i * j))) := gMul_r h h2
theorem gMul_fi {i j : Int} (h : -18446744073709551616 < i) (h2 : i < 18446744073709551616) : gMul (.int i) (.int j) = some (.frz (.int (i * j))) := gMul_l h h2
theorem gPow_10_3 : gPow (.int 10) (.int 3) = some (.frz (.int 1000)) := by rw [gPow_ok (by decide) (by decide) (by decide)]; rfl
theorem gPow_10_4 : gPow (.int 10) (.int 4) = some (.frz (.int 10000)) := by rw [gPow_ok (by decide) (by decide) (by decide)]; rfl
theorem gPow_10_5 : gPow (.int 10) (.int 5) = some (.frz (.int 100000)) := by rw [gPow_ok (by decide) (by decide) (by decide)]; rfl
theorem gPow_10_6 : gPow (.int 10) (.int 6) = some (.frz (.int 1000000)) := by rw [gPow_ok (by decide) (by decide) (by decide)]; rfl
theorem gPow_10_9 : gPow (.int 10) (.int 9) = some (.frz (.int 1000000000)) := by rw [gPow_ok (by decide) (by decide) (by decide)]; rfl
theorem gPow_10_10 : gPow (.int 10) (.int 10) = some (.frz (.int 10000000000)) := by rw [gPow_ok (by decide) (by decide) (by decide)]; rfl
theorem gPow_10_11 : gPow (.int 10) (.int 11) = some (.frz (.int 100000000000)) := by rw [gPow_ok (by decide) (by decide) (by decide)]; rfl
theorem gPow_10_12 : gPow (.int 10) (.int 12) = some (.frz (.int 1000000000000)) := by rw [gPow_ok (by decide) (by decide) (by decide)]; rfl
theorem gPow_10_18 : gPow (.int 10) (.int 18) = some (.frz (.int 1000000000000000000)) := by rw [gPow_ok (by decide) (by decide) (by decide)]; rfl
theorem gMul_md {a m j : Int} (h : 0 < m) (h2 : m < 18446744073709551616) : gMul (.int (a % m)) (.int j) = some (.frz (.int (a % m * j))) := by
  have h3 := Int.emod_nonneg a (show m ≠ 0 by omega)
  have h4 := Int.emod_lt_of_pos a h
  exact gMul_l (by omega) (by omega)
theorem ixN_0 {n : Nat} : ixN n 0 = if 0 < n then some 0 else none := by
  unfold ixN
  rw [if_pos (by decide)]
  by_cases h : 0 < n
  · rw [if_pos h, if_pos (by omega)]; rfl
  · rw [if_neg h, if_neg (by omega)]
theorem ixN_1 {n : Nat} : ixN n 1 = if 1 < n then some 1 else none := by
  unfold ixN
  rw [if_pos (by decide)]
  by_cases h : 1 < n
  · rw [if_pos h, if_pos (by omega)]; rfl
  · rw [if_neg h, if_neg (by omega)]
theorem ixN_2 {n : Nat} : ixN n 2 = if 2 < n then some 2 else none := by
  unfold ixN
  rw [if_pos (by decide)]
  by_cases h : 2 < n
  · rw [if_pos h, if_pos (by omega)]; rfl
  · rw [if_neg h, if_neg (by omega)]
theorem ixN_3 {n : Nat} : ixN n 3 = if 3 < n then some 3 else none := by
  unfold ixN
  rw [if_pos (by decide)]
  by_cases h : 3 < n
  · rw [if_pos h, if_pos (by omega)]; rfl
  · rw [if_neg h, if_neg (by omega)]
theorem ixN_4 {n : Nat} : ixN n 4 = if 4 < n then some 4 else none := by
  unfold ixN
  rw [if_pos (by decide)]
  by_cases h : 4 < n
  · rw [if_pos h, if_pos (by omega)]; rfl
  · rw [if_neg h, if_neg (by omega)]
theorem ixN_5 {n : Nat} : ixN n 5 = if 5 < n then some 5 else none := by
  unfold ixN
  rw [if_pos (by decide)]
  by_cases h : 5 < n
  · rw [if_pos h, if_pos (by omega)]; rfl
  · rw [if_neg h, if_neg (by omega)]
theorem ixN_6 {n : Nat} : ixN n 6 = if 6 < n then some 6 else none := by
  unfold ixN
  rw [if_pos (by decide)]
  by_cases h : 6 < n
  · rw [if_pos h, if_pos (by omega)]; rfl
  · rw [if_neg h, if_neg (by omega)]
theorem ixN_7 {n : Nat} : ixN n 7 = if 7 < n then some 7 else none := by
  unfold ixN
  rw [if_pos (by decide)]
  by_cases h : 7 < n
  · rw [if_pos h, if_pos (by omega)]; rfl
  · rw [if_neg h, if_neg (by omega)]
theorem ixN_8 {n : Nat} : ixN n 8 = if 8 < n then some 8 else none := by
  unfold ixN
  rw [if_pos (by decide)]
  by_cases h : 8 < n
  · rw [if_pos h, if_pos (by omega)]; rfl
  · rw [if_neg h, if_neg (by omega)]
theorem ixN_9 {n : Nat} : ixN n 9 = if 9 < n then some 9 else none := by
  unfold ixN
  rw [if_pos (by decide)]
  by_cases h : 9 < n
  · rw [if_pos h, if_pos (by omega)]; rfl
  · rw [if_neg h, if_neg (by omega)]
theorem gNeg_i {i : Int} : gNeg (.int i) = some (.frz (.int (-i))) := rfl
theorem gAdd_ll {a b : List D} : gAdd (.lst a) (.lst b) = if a.length + b.length ≤ 16000000 then some (.own (.lst (a ++ b))) else none := rfl
theorem gAdd_tt {x : D} {a b : List D} : gAdd (.tup (x :: a)) (.tup b) = if (x :: a).length + b.length ≤ 16000000 then some (.frz (.tup (x :: a ++ b))) else none := by
  show (if x :: a ≠ [] ∧ (x :: a).length + b.length ≤ lim then _ else _) = _
  by_cases h : (x :: a).length + b.length ≤ 16000000
  · rw [if_pos h, if_pos ⟨(fun z => by cases z), h⟩]
  · rw [if_neg h, if_neg fun z => h z.2]
theorem gApp_if {ds : List D} {e : D} : gAppend ds [e] = if ds.length < 16000000 then some (.frz .non, ds ++ [e]) else none := rfl
end Dd

namespace Dd
open PySem PySem.Spec PyProof.Rows L2
/-! comprehensions and loops whose slots stay -/
section
variable {env : DEnv} {X : Str → DEnv → Prop}
theorem w_lcFilt {gg : DG} {tt : DT} {te : DE} {vs : List Nat} {ds : List D} {Q : List D × DEnv → Prop} (p : D → Bool) (f : D → D) (hl : ds.length ≤ 16000000)
    (h : ∀ d ∈ ds, oQ (gg d (lendE env)) (fun e => wE (tt e) (fun b => b.1 = p d ∧ iQ (p d) (wE (te b.2) (fun q => q.1.d = f d ∧ backE env (wipeE q.2 vs) = env) (fun _ _ => False) kq kq) (backE env (wipeE b.2 vs) = env) kq kq) (fun _ _ => False) kq kq) kq) (hq : Q ((ds.filter p).map f, env)) : wE (lcD gg tt te vs ds [] env) Q X kq kq := by
  have key : ∀ (ds acc : List D), acc.length + ds.length ≤ 16000000 → (∀ d ∈ ds, oQ (gg d (lendE env)) (fun e => wE (tt e) (fun b => b.1 = p d ∧ iQ (p d) (wE (te b.2) (fun q => q.1.d = f d ∧ backE env (wipeE q.2 vs) = env) (fun _ _ => False) kq kq) (backE env (wipeE b.2 vs) = env) kq kq) (fun _ _ => False) kq kq) kq) → Q (acc ++ (ds.filter p).map f, env) → wE (lcD gg tt te vs ds acc env) Q X kq kq := by
    intro ds
    induction ds with
    | nil =>
      intro acc _ _ hq
      show Q _
      simpa using hq
    | cons d ds ih =>
      intro acc hl h hq
      rw [e_lcCons, eQ]
      have h0 := h d (by simp)
      cases eg : gg d (lendE env) with
      | none => rw [eg] at h0; exact h0.elim
      | some e =>
        rw [eg] at h0
        rw [oQ_s] at h0 ⊢
        refine wE_mono h0 ?_ (fun _ _ h => h)
        rintro ⟨b, e1⟩ ⟨rfl, h1⟩
        show iQ (p d) _ _ _ _
        cases hp : p d with
        | true =>
          rw [hp, iQ_t] at h1
          rw [iQ_t]
          refine wE_mono h1 ?_ (fun _ _ h => h)
          rintro ⟨s, e2⟩ ⟨h2, h3⟩
          replace h2 : s.d = f d := h2
          replace h3 : backE env (wipeE e2 vs) = env := h3
          show eQ (backE env (wipeE e2 vs)) (fun e => iQ _ (wE (lcD gg tt te vs ds (acc ++ [s.d]) e) _ _ _ _) _ _ _) _
          rw [h2, h3, eQ_e]
          rw [List.length_cons] at hl
          rw [decide_eq_true (show acc.length < lim by unfold lim; omega), iQ_t]
          refine ih _ (by simp only [List.length_append, List.length_cons, List.length_nil]; omega) (fun x hx => h x (by simp [hx])) ?_
          rw [List.filter_cons_of_pos (by simpa using hp)] at hq
          simpa using hq
        | false =>
          rw [hp, iQ_f] at h1
          rw [iQ_f, h1, eQ_e]
          rw [List.length_cons] at hl
          refine ih _ (by omega) (fun x hx => h x (by simp [hx])) ?_
          rw [List.filter_cons_of_neg (by simp [hp])] at hq
          exact hq
  exact key ds [] (by simpa using hl) h (by simpa using hq)
theorem w_lcMap {gg : DG} {te : DE} {vs : List Nat} {ds : List D} {Q : List D × DEnv → Prop} (f : D → D) (hl : ds.length ≤ 16000000)
    (h : ∀ d ∈ ds, oQ (gg d (lendE env)) (fun e => wE (te e) (fun q => q.1.d = f d ∧ backE env (wipeE q.2 vs) = env) (fun _ _ => False) kq kq) kq) (hq : Q (ds.map f, env)) : wE (lcD gg yesT te vs ds [] env) Q X kq kq := by
  refine w_lcFilt (fun _ => true) f hl (fun d hd => ?_) (by rw [List.filter_eq_self.mpr (fun _ _ => rfl)]; exact hq)
  have := h d hd
  cases eg : gg d (lendE env) with
  | none => rw [eg] at this; exact this.elim
  | some e =>
    rw [eg] at this
    exact ⟨rfl, this⟩
/-- a comprehension whose slots change: what holds of each item, of the slots -/
theorem w_lcAll {gg : DG} {tt : DT} {te : DE} {vs : List Nat} {ds : List D} {Q : List D × DEnv → Prop} (P : D → Prop) (E : DEnv → Prop) (hl : ds.length ≤ 16000000) (h0 : E env)
    (h : ∀ d ∈ ds, ∀ e, E e → oQ (gg d (lendE e)) (fun e1 => wE (tt e1) (fun b => b.1 = true ∧ wE (te b.2) (fun q => P q.1.d ∧ E (backE e (wipeE q.2 vs))) (fun _ _ => False) kq kq) (fun _ _ => False) kq kq) kq)
    (hq : ∀ acc e, acc.length = ds.length → (∀ d ∈ acc, P d) → E e → Q (acc, e)) : wE (lcD gg tt te vs ds [] env) Q X kq kq := by
  have key : ∀ (ds acc : List D) (env : DEnv), acc.length + ds.length ≤ 16000000 → E env → (∀ d ∈ acc, P d) → (∀ d ∈ ds, ∀ e, E e → oQ (gg d (lendE e)) (fun e1 => wE (tt e1) (fun b => b.1 = true ∧ wE (te b.2) (fun q => P q.1.d ∧ E (backE e (wipeE q.2 vs))) (fun _ _ => False) kq kq) (fun _ _ => False) kq kq) kq) → (∀ a2 e, a2.length = acc.length + ds.length → (∀ d ∈ a2, P d) → E e → Q (a2, e)) → wE (lcD gg tt te vs ds acc env) Q X kq kq := by
    intro ds
    induction ds with
    | nil =>
      intro acc env _ h0 ha _ hq
      exact hq acc env rfl ha h0
    | cons d ds ih =>
      intro acc env hl h0 ha h hq
      rw [e_lcCons, eQ]
      have h1 := h d (by simp) env h0
      cases eg : gg d (lendE env) with
      | none => rw [eg] at h1; exact h1.elim
      | some e =>
        rw [eg] at h1
        rw [oQ_s] at h1 ⊢
        refine wE_mono h1 ?_ (fun _ _ h => h)
        rintro ⟨b, e1⟩ ⟨rfl, h2⟩
        refine wE_mono h2 ?_ (fun _ _ h => h)
        rintro ⟨s, e2⟩ ⟨h3, h4⟩
        rw [List.length_cons] at hl
        show eQ (backE env (wipeE e2 vs)) (fun e => iQ _ (wE (lcD gg tt te vs ds (acc ++ [s.d]) e) _ _ _ _) _ _ _) _
        rw [eQ_e, decide_eq_true (show acc.length < lim by unfold lim; omega), iQ_t]
        refine ih _ _ (by simp only [List.length_append, List.length_cons, List.length_nil]; omega) h4 (fun x hx => ?_) (fun x hx => h x (by simp [hx])) (fun a2 e hl2 hp he => hq a2 e ?_ hp he)
        · rcases List.mem_append.mp hx with hx | hx
          · exact ha x hx
          · rw [List.mem_singleton.mp hx]; exact h3
        · simp only [List.length_append, List.length_cons, List.length_nil] at hl2 ⊢
          omega
  exact key ds [] env (by simpa using hl) h0 (fun _ hx => by cases hx) h (fun a2 e hl hp he => hq a2 e (by simpa using hl) hp he)
/-- a for whose slots change -/
theorem w_forInv {gg : DG} {gb : DS} {T : Out → Prop} {ds : List D} (I : Nat → DEnv → Prop) (h0 : I 0 env)
    (h : ∀ (i : Nat) d e, ds[i]? = some d → I i e → oQ (gg d e) (fun e1 => wE (gb e1) (loopT (I (i + 1)) T) X kq kq) kq) (hd : ∀ e, I ds.length e → T (.nx e)) : wE (forD gg gb ds env) T X kq kq :=
  w_forD I h0 (fun i d e hi he => by
    have h1 := h i d e hi he
    cases eg : gg d e with
    | none => rw [eg] at h1; exact h1.elim
    | some e1 => rw [eg] at h1; exact ⟨e1, rfl, h1⟩) hd
/-- a for over what stands: the state by a function -/
theorem w_forSt {α : Type} {gg : DG} {gb : DS} {T : Out → Prop} {ds : List D} (st : α → DEnv) (f : α → D → α) (a : α) (I : α → Prop) (h0 : I a)
    (h : ∀ a d, I a → d ∈ ds → oQ (gg d (st a)) (fun e => wE (gb e) (loopT (fun e => e = st (f a d) ∧ I (f a d)) T) X kq kq) kq) (hd : I (ds.foldl f a) → T (.nx (st (ds.foldl f a)))) : wE (forD gg gb ds (st a)) T X kq kq := by
  induction ds generalizing a with
  | nil => exact hd h0
  | cons d ds ih =>
    rw [e_forCons]
    have h1 := h a d h0 (by simp)
    cases eg : gg d (st a) with
    | none => rw [eg] at h1; exact h1.elim
    | some e =>
      rw [eg] at h1
      rw [oQ_s] at h1 ⊢
      refine wE_mon h1 fun o ho => ?_
      cases o with
      | nx z => obtain ⟨rfl, i⟩ := ho; exact ih _ i (fun a x ia hx => h a x ia (by simp [hx])) hd
      | ct z => obtain ⟨rfl, i⟩ := ho; exact ih _ i (fun a x ia hx => h a x ia (by simp [hx])) hd
      | bk z => exact ho
      | rt s z => exact ho
theorem gLen_s {z : Str} (h : z.length ≤ 16000000) : gLen [.str z] = some (.frz (.int z.length)) := if_pos h
theorem bools_mapE {α : Type} {f : α → Bool} : ∀ {xs : List α}, boolsOf (xs.map fun x => D.bl (f x)) = some (xs.map f)
  | [] => rfl
  | x :: xs => by
    show (boolsOf (xs.map fun x => D.bl (f x))).map _ = _
    rw [bools_mapE]
    rfl
theorem gAll_m {α : Type} {f : α → Bool} {xs : List α} : gAll [.lst (xs.map fun x => D.bl (f x))] = some (.frz (.bl (xs.all f))) := by
  show (boolsOf _).bind _ = _
  rw [bools_mapE]
  show some (Sl.frz (.bl ((xs.map f).all id))) = _
  rw [List.all_map]
  rfl
theorem gAny_m {α : Type} {f : α → Bool} {xs : List α} : gAny [.lst (xs.map fun x => D.bl (f x))] = some (.frz (.bl (xs.any f))) := by
  show (boolsOf _).bind _ = _
  rw [bools_mapE]
  show some (Sl.frz (.bl ((xs.map f).any id))) = _
  rw [List.any_map]
  rfl
theorem ints_mapE {α : Type} {f : α → Int} : ∀ {xs : List α}, intsOf (xs.map fun x => D.int (f x)) = some (xs.map f)
  | [] => rfl
  | x :: xs => by
    show (intsOf (xs.map fun x => D.int (f x))).map _ = _
    rw [ints_mapE]
    rfl
theorem gSum_m {α : Type} {f : α → Int} {xs : List α} : gSum [.lst (xs.map fun x => D.int (f x))] = some (.frz (.int (xs.map f).sum)) := by
  show (intsOf _).bind _ = _
  rw [ints_mapE]
  rfl
theorem gAll_e {ds : List D} : gAll [.lst ds] = (boolsOf ds).bind fun bs => some (.frz (.bl (bs.all id))) := rfl
theorem gAny_e {ds : List D} : gAny [.lst ds] = (boolsOf ds).bind fun bs => some (.frz (.bl (bs.any id))) := rfl
theorem gSum_e {ds : List D} : gSum [.lst ds] = (intsOf ds).bind fun ns => some (.frz (.int ns.sum)) := rfl
theorem gMaxL_e {ds : List D} : gMaxL [.lst ds] = (intsOf ds).bind fun ns => if ns = [] then none else some (.frz (.int (maxL ns))) := rfl
theorem gMinL_e {ds : List D} : gMinL [.lst ds] = (intsOf ds).bind fun ns => if ns = [] then none else some (.frz (.int (minL ns))) := rfl
theorem bo_n : boolsOf [] = some [] := rfl
theorem bo_c {b : Bool} {r : List D} : boolsOf (.bl b :: r) = (boolsOf r).map (b :: ·) := rfl
theorem io_n : intsOf [] = some [] := rfl
theorem io_c {b : Int} {r : List D} : intsOf (.int b :: r) = (intsOf r).map (b :: ·) := rfl
theorem all_mid {α : Type} {f : α → Bool} {xs : List α} : (xs.map f).all id = xs.all f := by rw [List.all_map]; rfl
theorem any_mid {α : Type} {f : α → Bool} {xs : List α} : (xs.map f).any id = xs.any f := by rw [List.any_map]; rfl
theorem lim_e : lim = 16000000 := rfl
end
end Dd

namespace Dd
open PySem PySem.Spec PyProof.Rows L2
theorem ofString_cps (a : String) : (Str.ofString a).cps.toList = a.toList.map Char.toNat := by
  show (cpsOfBytes 0 0 a.toByteArray.data.toList).toArray.toList = _
  rw [cpsOfBytes_string]
theorem map_inj {α β : Type} {f : α → β} (hf : ∀ x y, f x = f y → x = y) : ∀ {xs ys : List α}, xs.map f = ys.map f → xs = ys
  | [], [], _ => rfl
  | [], _ :: _, h => by cases h
  | _ :: _, [], h => by cases h
  | x :: xs, y :: ys, h => by
    rw [List.map_cons, List.map_cons] at h
    injection h with h1 h2
    rw [hf _ _ h1, map_inj hf h2]
theorem str_inj {a b : String} : (Str.ofString a = Str.ofString b) = (a = b) := by
  refine propext ⟨fun h => ?_, fun h => by rw [h]⟩
  have e : (Str.ofString a).cps.toList = (Str.ofString b).cps.toList := by rw [h]
  rw [ofString_cps, ofString_cps] at e
  have e2 := map_inj (fun x y h => Char.toNat_inj.mp h) e
  exact String.toList_inj.mp e2
theorem str_beq {a b : Str} : (a == b) = decide (a = b) := by
  by_cases h : a = b
  · subst h; simp
  · rw [decide_eq_false h]; exact beq_eq_false_iff_ne.mpr h
theorem strOk_lit (a : String) : PyData.strOk (Str.ofString a) = true := by
  rw [strOk_iff]
  intro c hc
  rw [ofString_cps] at hc
  obtain ⟨x, _, rfl⟩ := List.mem_map.mp hc
  have h := x.valid
  simp only [UInt32.isValidChar, Nat.isValidChar] at h
  show x.val.toNat < 0x110000
  omega
theorem gEq_lit {n : Bool} {a b : String} : gEq n (.str (Str.ofString a)) (.str (Str.ofString b)) = some (.frz (.bl (n != decide (a = b)))) := by
  rw [gEq_str (strOk_lit a) (strOk_lit b)]
  simp only [str_inj]
theorem lk_c {α : Type} {a k : Str} {b : α} {es : List (Str × α)} : List.lookup a ((k, b) :: es) = if a = k then some b else List.lookup a es := by
  rw [List.lookup_cons, str_beq]
  by_cases h : a = k
  · rw [if_pos h, decide_eq_true h]
  · rw [if_neg h, decide_eq_false h]
theorem lk_n {α : Type} {a : Str} : List.lookup a ([] : List (Str × α)) = none := rfl
def obQ (d : D) (K : Str → List Str → List D → Prop) (_ : Kq K) : Prop := match d with
  | .obj c ks ds => K c ks ds
  | _ => False
theorem ob_o {c : Str} {ks : List Str} {ds : List D} {K : Str → List Str → List D → Prop} : obQ (.obj c ks ds) K kq = K c ks ds := rfl
theorem pK_n {f : Str} : putK f [] = [f] := rfl
theorem pK_c {f g : Str} {r : List Str} : putK f (g :: r) = if g = f then g :: r else g :: putK f r := rfl
theorem pD_n {f : Str} {d : D} {ds : List D} : putD f d [] ds = [d] := rfl
theorem pD_c {f g : Str} {d e : D} {r : List Str} {ds : List D} : putD f d (g :: r) (e :: ds) = if g = f then d :: ds else e :: putD f d r ds := rfl
theorem fl_s {α : Type} {i : Nat} {r : List (Option Nat)} {d : α} {ds ws : List α} : fill (some i :: r) (d :: ds) ws = ws.getD i d :: fill r ds ws := rfl
theorem fl_n {α : Type} {r : List (Option Nat)} {d : α} {ds ws : List α} : fill (none :: r) (d :: ds) ws = d :: fill r ds ws := rfl
theorem fl_0 {α : Type} {ds ws : List α} : fill [] ds ws = [] := rfl
theorem tg_l {env : DEnv} {n : Nat} {gs : List D → DEnv → Option DEnv} {ds : List D} : gTupD n gs (.lst ds) env = if ds.length = n then gs ds env else none := rfl
section
variable {env : DEnv} {X : Str → DEnv → Prop} {T : Out → Prop}
theorem e_setAt {tab : Str → Bool} {f : Str} {i : Nat} {g : DE} : wE (setAtD tab f i g env) T X kq kq = wE (g env) (fun p => slQ p.2[i]? (fun s => iQ s.mut (obQ s.d (fun c ks ds => iQ (tab c && decide (ks.length < 1000)) (eQ (p.2.set i (some (s.put (.obj c (putK f ks) (putD f p.1.d ks ds))))) (fun e => T (.nx e)) kq) False kq kq) kq) False kq kq) kq) X kq kq := by
  unfold setAtD
  rw [x_bindS]
  refine wR_cg fun p => ?_
  unfold slQ
  cases p.2[i]? with
  | none => rfl
  | some o =>
    cases o with
    | none => rfl
    | some s =>
      simp only
      cases s.mut with
      | false => rfl
      | true =>
        simp only [iQ_t]
        cases s.d with
        | obj c ks ds =>
          simp only [ob_o]
          cases hb : (tab c && decide (ks.length < 1000)) with
          | false => rfl
          | true => rfl
        | _ => rfl
theorem e_setIx {i : Nat} {fe fk : DE} : wE (setIxD i fe fk env) T X kq kq = wE (fe env) (fun p => slQ p.2[i]? (fun _ => wE (fk p.2) (fun q => slQ q.2[i]? (fun s => iQ s.mut (lsQ s.d (fun ds => inQ q.1.d (fun k => oQ (ixN ds.length k) (fun j => eQ (q.2.set i (some (s.put (.lst (ds.set j p.1.d))))) (fun e => T (.nx e)) kq) kq) kq) kq) False kq kq) kq) X kq kq) kq) X kq kq := by
  unfold setIxD
  rw [x_bindS]
  refine wR_cg fun p => ?_
  unfold slQ
  cases p.2[i]? with
  | none => rfl
  | some o =>
    cases o with
    | none => rfl
    | some s0 =>
      simp only
      rw [x_bindS]
      refine wR_cg fun q => ?_
      cases q.2[i]? with
      | none => rfl
      | some o =>
        cases o with
        | none => rfl
        | some s =>
          simp only
          cases s.mut with
          | false => rfl
          | true =>
            simp only [iQ_t]
            cases s.d with
            | lst ds =>
              simp only [ls_l]
              cases q.1.d with
              | int k =>
                simp only [in_i]
                cases ixN ds.length k <;> rfl
              | _ => rfl
            | _ => rfl
end
end Dd

namespace Dd
open PySem PySem.Spec PyProof.Rows L2
/-! ### the head: what the top leaves, read off its heap -/
/-- what an object reaches in so many steps -/
def reachG (g : Addr → Option Obj) : Nat → Addr → List Addr
  | 0, a => [a]
  | n + 1, a => a :: (match g a with
    | some o => (He.refsD o).flatMap (reachG g n)
    | none => [])
/-- the object that a name of the main module stands for -/
def nameG (g : Addr → Option Obj) (x : Str) : List Addr := match PySem.W.nsIn (He.frG g [mainGlobals]) mainGlobals x with
  | some (some (.ref a)) => reachG g 5 a
  | _ => []
def selG (xs : List Str) (g : Addr → Option Obj) : List Addr := mainGlobals :: xs.flatMap (nameG g)
def obsZ (ex : PySem.W.Frag → List Bool) (fn : List He.DefD) (K : PySem.W.Frag) : He.AlD := ((ex K).all id && fn.all fun d => d.ok K, fn.map fun d => He.fnW K d.at_)
def obsZG (xs : List Str) (ex : PySem.W.Frag → List Bool) (fn : List He.DefD) (g : Addr → Option Obj) : He.AlD := obsZ ex fn (He.frG g (selG xs g))
def SaysZ (ex : PySem.W.Frag → List Bool) (fn : List He.DefD) (K : PySem.W.Frag) : Prop := obsZ ex fn K = He.valD fn
def hookZ (xs : List Str) (ex : PySem.W.Frag → List Bool) (fn : List He.DefD) : PySem.W.Hook where
  α := He.AlD
  obs := fun s => obsZG xs ex fn s.heap.get?
  val := fun _ => He.valD fn
  says := fun _ h => ∃ K : PySem.W.Frag, K.In h ∧ SaysZ ex fn K
  of := fun _ _ e => ⟨_, He.frG_in, e⟩
  keeps := fun _ _ _ ⟨K, hK, c⟩ k => ⟨K, PySem.W.Frag.In.keeps hK k, c⟩
theorem obsZG_eq {xs : List Str} {ex : PySem.W.Frag → List Bool} {fn : List He.DefD} {g : Addr → Option Obj} {s : Shared} (h : ∀ a, g a = s.heap.get? a) : obsZG xs ex fn g = (hookZ xs ex fn).obs s := by
  have e : g = s.heap.get? := funext h
  rw [e] <;> rfl
section
variable {ex : PySem.W.Frag → List Bool} {fn : List He.DefD} {K : PySem.W.Frag} {h : Heap} {mg : Str → Option Value}
theorem SaysZ.at (c : SaysZ ex fn K) (i : Nat) {b : Bool} (e : (ex K)[i]? = some b) : b = true := by
  have c1 := (He.ba (show ((ex K).all id && fn.all fun d => d.ok K) = true from congrArg (fun z : He.AlD => z.1) c)).1
  exact List.all_eq_true.mp c1 b (List.mem_of_getElem? e)
theorem SaysZ.def_ (c : SaysZ ex fn K) (i : Nat) {d : He.DefD} (e : fn[i]? = some d) : ∃ fd, FunD K d.name d.qual d.params d.body d.scope (d.dvs K) (d.kws K) (He.fAd K d.at_) fd := by
  have c2 := (He.ba (show ((ex K).all id && fn.all fun d => d.ok K) = true from congrArg (fun z : He.AlD => z.1) c)).2
  have e1 : fn.map (fun d => He.fnW K d.at_) = fn.map He.DefD.val := congrArg (fun z : He.AlD => z.2) c
  have e2 : (fn.map fun d => He.fnW K d.at_)[i]? = (fn.map He.DefD.val)[i]? := by rw [e1]
  rw [List.getElem?_map, List.getElem?_map, e] at e2
  exact He.DefD.funD (Option.some.inj e2) (List.all_eq_true.mp c2 d (List.mem_of_getElem? e))
def gloB (K : PySem.W.Frag) (x : Str) : Bool := He.eqO (PySem.W.nsIn K mainGlobals x) (some (some (.ref (He.ga K x))))
def freeB (K : PySem.W.Frag) (x : Str) : Bool := He.eqO (PySem.W.nsIn K mainGlobals x) (some none)
def valB (K : PySem.W.Frag) (x : Str) (v : V) : Bool := match PySem.W.nsIn K mainGlobals x with
  | some (some u) => He.relB v u
  | _ => false
theorem gloB_ok (X : K.In h) (G : h.Ns mainGlobals mg) {x : Str} (c : gloB K x = true) : mg x = some (.ref (He.ga K x)) := PySem.W.mg_of X G (He.eqO_ok c)
theorem freeB_ok (X : K.In h) (G : h.Ns mainGlobals mg) {x : Str} (c : freeB K x = true) : mg x = none := PySem.W.mg_none_of X G (He.eqO_ok c)
theorem valB_ok (X : K.In h) (G : h.Ns mainGlobals mg) {x : Str} {v : V} (c : valB K x v = true) : Kon mg x v := by
  unfold valB at c
  cases e : PySem.W.nsIn K mainGlobals x with
  | none => rw [e] at c; cases c
  | some o =>
    rw [e] at c
    cases o with
    | none => cases c
    | some u => exact ⟨u, PySem.W.mg_of X G e, He.relB_ok c⟩
theorem tupB_K {x : Str} {vs : List He.Dv} (c : He.tupB K x vs = true) : TupK K (He.ga K x) (vs.map (He.Dv.v K)) := by
  unfold He.tupB at c
  cases q : K.lookup (He.ga K x) with
  | none => rw [q] at c; cases c
  | some o =>
    obtain ⟨oc, od, dt, osl⟩ := o
    rw [q] at c
    cases oc with
    | type t =>
      cases dt with
      | seq its n =>
        obtain ⟨h1, h2⟩ := He.ba (show (decide (t = "tuple") && (decide (its.size ≤ sizeLine) && He.relAll (vs.map (He.Dv.v K)) its.toList)) = true from c)
        obtain ⟨h3, h4⟩ := He.ba h2
        exact ⟨_, its, n, q, congrArg Value.type (of_decide_eq_true h1), rfl, of_decide_eq_true h3, He.relAll_ok h4⟩
      | _ => cases c
    | _ => cases dt <;> cases c
theorem funH {x qual : Str} {st : Stmt} {f : Addr} {fd : FuncData} {kws : List (Str × V)} (F : FunD K x qual (defArgs st) (defBody st) (defScope st) [] kws f fd) : Fun K x qual st f fd := by
  obtain ⟨oc, od, dV, kV, doc, pm, an, cdv, ct, osl, e, l, c, hd, _⟩ := F.ex
  rcases hd with ⟨_, e2⟩ | ⟨e2, _⟩
  · subst e2
    exact ⟨⟨oc, od, kV, doc, pm, an, cdv, ct, osl, e, l, c⟩, F.kp⟩
  · exact absurd rfl e2
theorem has_hk {x : Str} {st : Stmt} {ps : List Str} {f : Addr} {kws : List (Str × V)} (F : ∃ fd, FunD K x x (defArgs st) (defBody st) (defScope st) [] kws f fd) (g : mg x = some (.ref f))
    (b : ∀ (kV doc pm : Value) (an : Option Addr) (cdv ct : Value) (us : List Value), us.length = ps.length → bindArgs (PySem.W.fnOf x x (defArgs st) (defBody st) (defScope st) .none kV doc pm an cdv ct) ⟨us, []⟩ = pure (ps.zip us)) : Has K mg x st ps := by
  obtain ⟨fd, F⟩ := F
  exact has_mk (funH F) g b
theorem hask_hk {x : Str} {st : Stmt} {f : Addr} {kws : List (Str × V)} (F : ∃ fd, FunD K x x (defArgs st) (defBody st) (defScope st) [] kws f fd) (g : mg x = some (.ref f)) : HasK K mg x st kws := by
  obtain ⟨fd, F⟩ := F
  exact ⟨f, fd, F, g⟩
def clsB (K : PySem.W.Frag) (C : Addr) : Bool := PySem.W.plainGet K C Str.empty && (PySem.W.hasDictIn K C && (PySem.W.plainOver K C && He.eqO (PySem.W.findIn K (.ref C) "__setattr__") (some (some (.builtin "object.__setattr__")))))
def clsB2 (K : PySem.W.Frag) (C : Addr) : Bool := He.eqO (PySem.W.findIn K (.ref C) "__class__") (some (some (.builtin "object.__class__"))) && (He.eqO (PySem.W.specialIn K (.builtin "object.__class__") "__get__") (some (some (.builtin "getset_descriptor.__get__"))) && (decide (PySem.W.takesIn K (.builtin "object.__class__") = some true) && decide (PySem.W.mroIn K C (.type "object") = some true)))
theorem clsF_hk {x : Str} (g : mg x = some (.ref (He.ga K x))) (c : clsB K (He.ga K x) = true) (d : clsB2 K (He.ga K x) = true) : ClsF K mg x := by
  have q := clsA_of g
  obtain ⟨c1, c⟩ := He.ba c
  obtain ⟨c2, c⟩ := He.ba c
  obtain ⟨c3, c4⟩ := He.ba c
  obtain ⟨d1, d⟩ := He.ba d
  obtain ⟨d2, d⟩ := He.ba d
  obtain ⟨d3, d4⟩ := He.ba d
  exact ⟨by rw [q]; exact g, by rw [q]; exact ⟨c1, c2, c3, He.eqO_ok c4⟩, by rw [q]; exact He.eqO_ok d1, He.eqO_ok d2, of_decide_eq_true d3, by rw [q]; exact of_decide_eq_true d4⟩
def mkB (K : PySem.W.Frag) (C : Addr) : Bool := PySem.W.makesIn K C && (He.eqO (PySem.W.findIn K (.ref C) "__init__") (some (some (.ref (He.ma K C "__init__")))) && (PySem.W.isFn K (.ref (He.ma K C "__init__")) && PySem.W.keepIn K (.ref C)))
theorem init_hk {x qual : Str} {st : Stmt} {kws : List (Str × V)} (g : mg x = some (.ref (He.ga K x))) (c : mkB K (He.ga K x) = true) (F : ∃ fd, FunD K "__init__" qual (defArgs st) (defBody st) (defScope st) [] kws (He.ma K (He.ga K x) "__init__") fd) : InitD K mg x qual st kws := by
  have q := clsA_of g
  obtain ⟨c1, c⟩ := He.ba c
  obtain ⟨c2, c⟩ := He.ba c
  obtain ⟨c3, c4⟩ := He.ba c
  obtain ⟨fd, F⟩ := F
  exact ⟨_, fd, by rw [q]; exact ⟨c1, He.eqO_ok c2, c3, c4⟩, F⟩
theorem noat_hk {x f : Str} (g : mg x = some (.ref (He.ga K x))) (c : He.eqO (PySem.W.findIn K (.ref (He.ga K x)) f) (some none) = true) : NoAttr K (clsA mg x) f := by
  rw [clsA_of g]
  exact He.eqO_ok c
def errB (K : PySem.W.Frag) (C : Addr) : Bool := PySem.W.excIn K C [.type "ValueError", .type "Exception", .type "BaseException", .type "object"] "ValueError.__new__" && (PySem.W.keepIn K (.ref C) && (decide (PySem.W.subIn K (.ref C) (.type "BaseException") = some true) && decide (PySem.W.typeIn K (.ref C) = some (.type "type"))))
def errB2 (K : PySem.W.Frag) (C : Addr) : Bool := He.eqO (PySem.W.findIn K (.ref C) "__getattribute__") (some (some (.builtin "BaseException.__getattribute__"))) && (He.eqO (PySem.W.findIn K (.ref C) "__getattr__") (some none) && (PySem.W.hasDictIn K C && clsB2 K C))
theorem err_hk {x : Str} (g : mg x = some (.ref (He.ga K x))) (c : errB K (He.ga K x) = true) (d : errB2 K (He.ga K x) = true) : ErrC K mg x := by
  have q := clsA_of g
  obtain ⟨c1, c⟩ := He.ba c
  obtain ⟨c2, c⟩ := He.ba c
  obtain ⟨c3, c4⟩ := He.ba c
  obtain ⟨d1, d⟩ := He.ba d
  obtain ⟨d2, d⟩ := He.ba d
  obtain ⟨d3, d⟩ := He.ba d
  obtain ⟨e1, d⟩ := He.ba d
  obtain ⟨e2, d⟩ := He.ba d
  obtain ⟨e3, e4⟩ := He.ba d
  exact ⟨by rw [q]; exact g, by rw [q]; exact c1, by rw [q]; exact c2, by rw [q]; exact of_decide_eq_true c3, by rw [q]; exact of_decide_eq_true c4,
    by rw [q]; exact ⟨He.eqO_ok d1, He.eqO_ok d2, of_decide_eq_true c3, d3, He.eqO_ok e1, He.eqO_ok e2, of_decide_eq_true e3, of_decide_eq_true e4⟩⟩
theorem caught_hk {x y : Str} (gx : mg x = some (.ref (He.ga K x))) (gy : mg y = some (.ref (He.ga K y))) (c : decide (PySem.W.exmOne K (.ref (He.ga K x)) (.ref (He.ga K y)) = some true) = true) : Caught K mg x y :=
  ⟨by rw [clsA_of gy]; exact gy, by rw [clsA_of gx, clsA_of gy]; exact of_decide_eq_true c⟩
theorem kit_hk {x y : Str} {b : Bool} (gx : mg x = some (.ref (He.ga K x))) (gy : mg y = some (.ref (He.ga K y))) (c : decide (PySem.W.kitOne K (.ref (He.ga K x)) (.ref (He.ga K y)) = some b) = true) : KitC K mg x y b :=
  ⟨by rw [clsA_of gy]; exact gy, by rw [clsA_of gx, clsA_of gy]; exact of_decide_eq_true c⟩
theorem kitv_hk {x : Str} {y : String} {b : Bool} (gx : mg x = some (.ref (He.ga K x))) (c : decide (PySem.W.kitOne K (.ref (He.ga K x)) (.type y) = some b) = true) : PySem.W.kitOne K (.ref (clsA mg x)) (.type y) = some b := by
  rw [clsA_of gx]
  exact of_decide_eq_true c
end
end Dd

namespace Dd
open PySem PySem.Spec PyProof.Rows L2
/-! ### super().__init__(..) in an __init__ -/
/-- statements, one statement at the def's own point -/
structure PSsA (X : Cx) (c : Code) (ss : List Stmt) (t : TS) : Prop where
  run : ∀ (pins : List (Addr × Obj)) (s : Shared) (σ : L2.St) (H : Hp) (D : Ends), Inv X pins σ H s → t D σ H → _root_.PySem.wpAt (model X.prog X.w) X.A c (execs ss X.env) (SP X pins D) X.xe s
structure PSA (X : Cx) (c : Code) (st : Stmt) (t : TS) : Prop where
  run : ∀ (pins : List (Addr × Obj)) (s : Shared) (σ : L2.St) (H : Hp) (D : Ends), Inv X pins σ H s → t D σ H → _root_.PySem.wpAt (model X.prog X.w) X.A c (exec st X.env) (SP X pins D) X.xe s
section
variable {X : Cx} {c : Code} {st : Stmt} {ss rest : List Stmt} {t u : TS}
theorem PSsA.of (h : PSs X ss t) : PSsA X c ss t := ⟨fun pins s σ H D I q => wpAt_of_wpAny (h.run pins s σ H D I q)⟩
theorem PSA.of (h : PS X st t) : PSA X c st t := ⟨fun pins s σ H D I q => wpAt_of_wpAny (h.run pins s σ H D I q)⟩
theorem psA_cons (h1 : PSA X c st t) (h2 : PSsA X c rest u) : PSsA X c (st :: rest) (tSeq t u) := by
  refine ⟨fun pins s σ H D I h => ?_⟩
  refine ks_wpAt_execs_cons (ks_wpAt_mono (h1.run pins s σ H { D with nx := u D } I h) (fun f s1 q => ?_) fun _ _ z => z)
  cases f with
  | next =>
    obtain ⟨σ', H', I', q⟩ := q
    exact h2.run pins s1 σ' H' D I' q
  | ret v => exact q
  | brk => exact q
  | cont => exact q
theorem PSsA.weak {t' : TS} (h : PSsA X c ss t) (k : ∀ D σ H, t' D σ H → t D σ H) : PSsA X c ss t' := ⟨fun pins s σ H D I w => h.run pins s σ H D I (k _ _ _ w)⟩
theorem PSA.weak {t' : TS} (h : PSA X c st t) (k : ∀ D σ H, t' D σ H → t D σ H) : PSA X c st t' := ⟨fun pins s σ H D I w => h.run pins s σ H D I (k _ _ _ w)⟩
end
/-- what super() leans on: f the def, cda its code, cc the cell of __class__, D the class there, C the instance's class, g what is found behind D -/
structure SupF (P : Program) (K : PySem.W.Frag) (f cda cc D C g : Addr) (m sf : Str) : Prop where
  hf : ∃ oc od osl fd ar, K.lookup f = some ⟨oc, od, .func fd, osl⟩ ∧ (fd.params.posonlyargs ++ fd.params.args).head? = some ar ∧ ar.arg = sf
  hcode : ∃ ccl cdd ccs vs file tf, K.lookup cda = some ⟨ccl, cdd, .fields vs, ccs⟩ ∧ vs[2]? = some (.str file tf) ∧ ((P.main.file : Str) == file) = true
  hcell : ∃ cl cld csl, K.lookup cc = some ⟨cl, cld, .cell (some (.ref D)), csl⟩
  hD : ∃ cd, PySem.W.clsIn K D = some cd
  hsub : PySem.W.mroIn K C (.ref D) = some true
  hst : PySem.W.nsIn K cStatics "thirdparty.any" = some none
  hm : PySem.W.ks_superIn K C D m = some (some (.ref g))
  ht : PySem.W.typeIn K (.ref g) = some (.type "function")
  hfi : PySem.W.fnIn K g = true
  htop : (P.main.scope.names.lookup ("super" : Str)).isSome = false
def tSup (sp : Sp) (E : XK) (C : Addr) (ta : TA) : TS := fun T σ H => ∃ p dx fs, σ[0]? = some (some (.ref p)) ∧ H p = some (.ins C dx fs) ∧ ta σ H fun vs H1 => sp (.ref p :: vs) H1 (fun _ H2 => T.nx σ H2) E
theorem psA_super {X : Cx} {CX : CXT} {k : Nat} {f cda cc D C g : Addr} {m sf : Str} {sp : Sp} {E : XK} {e : Expr} {es : List Expr} {ta : TA} {pos pos' p0 p1 ap : Pos} {body : List Stmt}
    (S : SupF X.prog X.K f cda cc D C g m sf) (hmg : X.mg "super" = none) (F : FnR X.prog X.w X.K X.mg X.base CX k g sp) (hr : Room k X.A) (hx : Passes CX X E) (ha : PA X (e :: es) ta)
    (hks : X.env.kindOf "super" = some .globalImplicit) (hkc : X.env.kindOf "__class__" = some .free) (hself : X.N[0]? = some sf) (hloc : X.env.kindOf sf = some .local)
    (hfu : X.env.func = some f) (hco : X.env.code = .ref cda) (hcl : X.env.cells.lookup ("__class__" : Str) = some cc) (hat : (m == ("__class__" : Str)) = false)
    (hst : starEach (e :: es) X.env = (false, eval e X.env) :: starEach es X.env) (hpl : (backTo pos (starEach es X.env)).any (·.1) = false) (hi : interactive X.env = false) (hs : swapsWith (.Call (.Attribute (.Call (.Name "super" p0) [] [] p1) m ap) (e :: es) [] pos) none pos'.line X.env = pure false)
    {pl : Sem Bool} (he : eval (.Call (.Attribute (.Call (.Name "super" p0) [] [] p1) m ap) (e :: es) [] pos) X.env = (do
      let ov ← attributeBase (.Call (.Name "super" p0) [] [] p1) m X.env (eval (.Call (.Name "super" p0) [] [] p1) X.env)
      standAt ap.atName
      let (f, first) ← holding [ov] (getMethod ov m pl)
      callWith pos f first (backTo pos (starEach (e :: es) X.env)) [])) :
    PSA X (.func body X.env) (.Expr (.Call (.Attribute (.Call (.Name "super" p0) [] [] p1) m ap) (e :: es) [] pos) pos') (tSup sp E C ta) := by
  refine ⟨fun pins s σ H T I ⟨p, dx, fs, hσ, hH, hta⟩ => ?_⟩
  refine ks_wpAt_Expr_any ?_ hi hs
  refine ks_wpAt_MethodCall (pl := pl) ?_ he
  obtain ⟨oc, od, osl, fd, ar, hf, hp, hars⟩ := S.hf
  obtain ⟨ccl, cdd, ccs, vs, file, tf, hcode, hvs, hfile⟩ := S.hcode
  obtain ⟨cl, cld, csl, hcell⟩ := S.hcell
  obtain ⟨cdD, hD⟩ := S.hD
  have XK : X.K.In s.heap := I.kIn
  refine ks_wpAt_super_base hks hkc hat hfu (XK _ _ hf) rfl hp hco (XK _ _ hcode) rfl hvs hfile S.htop ?_
  obtain ⟨mb, hb1, hb2⟩ := I.ok.mod.blt
  refine PySem.W.ks_loadName_global I.ok.kind hks (Calls.loadGlobal_builtin (by rw [I.ok.glob]; exact I.mod.glob.keeps I.bk) hmg (by rw [I.ok.blt]; exact hb1.keeps I.bk) ((hb2 _ (by decide)).trans (show bootBuiltins "super" = some (.type "super") by decide +kernel)) ⟨rfl, ?_⟩)
  refine wpAny_loadName_free I.ok.kind hkc hcl ⟨_, XK _ _ hcell, rfl⟩ ?_
  obtain ⟨m0, hn, hl⟩ := I.loc
  obtain ⟨u, ru, lu⟩ := hl 0 sf (.ref p) hself hσ (.inl hloc)
  obtain rfl : u = Value.ref p := ru
  have hm0 : m0 sf = some (.ref p) := by
    rcases lu with ⟨_, h⟩ | ⟨hk, _⟩
    · exact h
    · have hloc' : X.env.scope.names.lookup sf = some .local := hloc
      rcases hk with hk | hk
      · have hk : X.env.scope.names.lookup sf = some .cell := hk
        rw [hloc'] at hk; cases hk
      · have hk : X.env.scope.names.lookup sf = some .free := hk
        rw [hloc'] at hk; cases hk
  rw [hars]
  refine wpAny_loadName_local I.ok.kind hloc hn hm0 ?_
  obtain ⟨oD, hD1, hD2⟩ : ∃ oD, s.heap.get? D = some oD ∧ oD.data = .cls cdD := by
    have hD := hD
    unfold PySem.W.clsIn at hD
    split at hD
    · rename_i c d cd' sl ho
      cases hD
      exact ⟨_, XK _ _ ho, rfl⟩
    · cases hD
  obtain ⟨mA, O, rr, _, _, _⟩ := ins_get I.hok hH
  obtain ⟨od', J, hlk⟩ := O.look
  obtain ⟨hh, g0, d0, t0, os0⟩ := s
  refine ks_wpAny_isType_cls hD1 hD2 ⟨rfl, ?_⟩
  refine ks_wpAny_call_super hD1 hD2 J.at_ J.cls (fun c e => ?_) (PySem.W.looks_mroIn XK S.hsub) (fun h' eo kp => ?_)
  · have := J.no
    unfold PySem.W.notCls at this
    rw [e] at this
    exact Bool.noConfusion this
  have I1 : Inv X ((hh.objs.size, PySem.W.ks_superObj D p C) :: pins) σ H ⟨h', g0, d0, t0, os0⟩ := ClX.pin_new (t' := t0) I kp (Nat.le_refl _) eo (fun v z => nomatch z)
  have XK1 : X.K.In h' := I1.kIn
  have hm := S.hm
  unfold PySem.W.ks_superIn at hm
  cases hc : PySem.W.clsIn X.K C with
  | none => rw [hc] at hm; cases hm
  | some cdC =>
    rw [hc] at hm
    obtain ⟨of, hof, hofc⟩ : ∃ of, h'.get? g = some of ∧ of.cls = .type "function" := by
      have ht' : (X.K.lookup g).map (·.cls) = some (.type "function") := S.ht
      cases z : X.K.lookup g with
      | none => rw [z] at ht'; cases ht'
      | some of => rw [z] at ht'; exact ⟨of, XK1 _ _ z, Option.some.inj ht'⟩
    refine ks_wpAny_getMethod_super eo (PySem.W.looks_opaque XK1 S.hst) (l₀ := cdC.mro) (fun A Q E s k q => wpAny_bind ((PySem.W.looks_clsIn XK1 hc) A _ E s k (wpAny_pure q))) rfl XK1 hm hof hofc (PySem.W.ks_ne XK J hc) hat ?_
    have I2 := ClX.met_new (g := g) (C := p) I1
    refine ClX.callwith_cm I2 (ClX.base_none I1 (Nat.le_refl _)) S.hfi (thn (ha.run pos _ _ σ H _ I2 hta) fun us s3 ⟨vs, H2, I3, rv, q2⟩ => ⟨⟨ClX.pin_at I3, I3.kIn⟩, ?_⟩) hst hpl
    refine thn (ClX.run_cm F hr hx I3 rv q2) fun v s4 h4 => ?_
    obtain ⟨v', H', I4, r, q⟩ := h4
    exact ⟨σ, H', ClX.unpin I4, q⟩
end Dd

namespace Dd
open PySem PySem.Spec PyProof.Rows L2
open NdefX in
theorem fn_ofS {CX : CXT} {P : Program} {w : World} {K : PySem.W.Frag} {mg : Str → Option Value} {base : Heap} {k : Nat} {f c cc D : Addr} {name qual : Str} {params : Arguments} {body : List Stmt} {scope : Scope} {kV doc pm ct oc : Value} {an od : Option Addr}
    {osl : Array (Option Value)} {N ps : List Str} {sp : Sp} (lk : K.lookup f = some ⟨oc, od, .func (PySem.W.fnX name qual params body scope [("__class__", cc)] .none kV doc pm an (.ref c) ct), osl⟩) (hcd : PySem.W.codeIn K (.ref c) qual = true) (S : NScope N ps ["__class__"] scope)
    (hcell : ∃ cl cld csl, K.lookup cc = some ⟨cl, cld, .cell (some (.ref D)), csl⟩)
    (len : ∀ vs H Q E, sp vs H Q E → vs.length = ps.length)
    (hbody : ∀ (A : Around) (outer : List Env) (s : Shared) (H : Hp) (vs : List V) (Q : VK) (E : XK), Room k (A.deeper (envF ⟨name, qual, params, body, scope, [("__class__", cc)], c⟩ f s.heap.objs.size)) → sp vs H Q E →
      ∃ t, PSsA (ncx CX P w K mg base N ⟨name, qual, params, body, scope, [("__class__", cc)], c⟩ f A outer s H E) (.func body (envF ⟨name, qual, params, body, scope, [("__class__", cc)], c⟩ f s.heap.objs.size)) body t ∧ t { nx := fun _ H' => Q .non H', rt := Q } (startF N vs [some (.ref D)]) H) :
    FnOk P w K mg base CX (k + 1) f (PySem.W.fnX name qual params body scope [("__class__", cc)] .none kV doc pm an (.ref c) ct) ps sp := by
  refine ⟨len, fun A outer s H args us vs Q E hr e0 hb r hsp => ?_⟩
  have hl := len _ _ _ _ hsp
  have KX : K.In s.heap := e0.mod.kin.keeps fun b o e => (e0.bs b o e).1
  have lim : s.heap.NoLimit := e0.mod.nolimit.keeps fun b o e => (e0.bs b o e).1
  refine codeAny_call_function hr.depth (KX _ _ lk) rfl S.co S.gen rfl (PySem.W.codeRec_of KX hcd) (hb _ _ _ _ ?_)
  refine wpAny_newFunctionEnv S.nocell (fun ⟨n, _⟩ hy => S.par n (List.of_mem_zip hy).1) (fun h₁ hns hsb => ⟨lim.fresh _ hsb, ?_⟩) S.kind
  show codeAny _ _ (.func body (envF ⟨name, qual, params, body, scope, [("__class__", cc)], c⟩ f s.heap.objs.size)) _ _
  refine ks_codeAny_funcAt ?_
  have kp : ∀ b o, s.heap.get? b = some o → h₁.get? b = some o := fun b o e => hsb.extBut b o (Nat.ne_of_lt (Heap.lt_size e)) (Heap.get?_push_of_some _ e)
  obtain ⟨t, ht, hq⟩ := hbody A outer s H vs Q E (hr.deeper _) hsp
  obtain ⟨cl, cld, csl, hcell⟩ := hcell
  have hc0 := e0.bs cc _ (e0.mod.kin _ _ hcell)
  have C : CellsAt [("__class__", cc)] ["__class__"] [some (V.ref D)] s.heap H := by
    refine ⟨rfl, fun y c h => ?_, fun x y c h1 h2 => ?_, fun i y h => ?_⟩
    · have h : (match y == ("__class__" : Str) with | true => some cc | false => none) = some c := h
      cases e : (y == ("__class__" : Str)) with
      | false => rw [e] at h; cases h
      | true => rw [e] at h; cases h; exact ⟨hc0.2, _, _, hc0.1, rfl⟩
    · have h1 : (match x == ("__class__" : Str) with | true => some cc | false => none) = some c := h1
      have h2 : (match y == ("__class__" : Str) with | true => some cc | false => none) = some c := h2
      cases e : (x == ("__class__" : Str)) with
      | false => rw [e] at h1; cases h1
      | true =>
        cases e' : (y == ("__class__" : Str)) with
        | false => rw [e'] at h2; cases h2
        | true => rw [eq_of_beq e, eq_of_beq e']
    · match i, h with
      | 0, h =>
        cases h
        exact ⟨cc, rfl, fun v hv => by cases hv; exact ⟨_, rfl, _, hc0.1, rfl⟩⟩
      | i + 1, h => simp at h
  have I : Inv (ncx CX P w K mg base N ⟨name, qual, params, body, scope, [("__class__", cc)], c⟩ f A outer s H E) [] (startF N vs [some (.ref D)]) H { s with heap := h₁, toks := s.toks + (ps.zip us).length } := inv_startN S hr.hd e0 hl r C hns kp
  refine ks_wpAt_mono (ht.run [] _ (startF N vs [some (.ref D)]) H _ I hq) (fun fl s' hs => ?_) fun e s' hs => hs
  have fin : ∀ {σ' : L2.St} {H' : Hp} {v : V} {u : Value}, Inv (ncx CX P w K mg base N ⟨name, qual, params, body, scope, [("__class__", cc)], c⟩ f A outer s H E) [] σ' H' s' → L2.RelV v u → Q v H' → CE outer P w H s Q u s' :=
    fun {σ' H' v u} J rv q => ⟨v, H', J.os, J.bare, J.base, J.hok, rv, q⟩
  cases fl with
  | ret u =>
    obtain ⟨v, σ', H', J, rv, q⟩ := hs
    exact fin J rv q
  | next =>
    obtain ⟨σ', H', J, q⟩ := hs
    exact fin (v := V.non) (u := Value.none) J rfl q
  | brk =>
    obtain ⟨_, _, _, q⟩ := hs
    exact False.elim q
  | cont =>
    obtain ⟨_, _, _, q⟩ := hs
    exact False.elim q
end Dd

namespace Dd
open PySem PySem.Spec PyProof.Rows L2
/-! ### __init__ with the cell of __class__; super().__init__(..) over data; C(e, .., k = v, ..) -/
theorem PSsA.nox {X : Cx} {c : Code} {ss : List Stmt} {t : TS} (h : PSsA X.nox c ss t) : PSsA X c ss t := ⟨fun pins s σ H D I hw => ks_wpAt_mono (h.run pins s σ H D (I.wish _) hw) (fun _ _ q => q.unwish) fun _ _ z => False.elim z⟩
/-- super().__init__(..) of an instance whose class is x: g is the parent's __init__ -/
def supD (x : Str) (g : DF) (fs : List DE) : DS := fun env => match env[0]? with
  | some (some s) => (match s.mut, s.d with
    | true, .obj c _ _ => if c = x then exprD (callBD g 0 fs) env else .no
    | _, _ => .no)
  | _ => .no
section
variable {C : Cd} {fs : List DE} {g : DF} {x : Str}
theorem t_sup {T : Ends} {σ : L2.St} {H : Hp} {n : Nat} (hn : fs.length + 1 = n) : tDS C (supD x g fs) T σ H → tSup (spB C.K C.mg n g) E0 (clsA C.mg x) (tDA C fs) T σ H := fun ⟨F, env, I, h⟩ => by
  unfold supD at h
  cases ei : env[0]? with
  | none => simp only [ei] at h; exact h.elim
  | some z =>
    cases z with
    | none => simp only [ei] at h; exact h.elim
    | some s =>
      simp only [ei] at h
      obtain ⟨w, hv, hs⟩ := I.sl 0 s ei
      have fin : ∀ c ks ds q, w = .ref q → s.mut = true → s.d = .obj c ks ds → Own C.K C.mg F H (.obj c ks ds) q → tSup (spB C.K C.mg n g) E0 (clsA C.mg x) (tDA C fs) T σ H := by
        intro c ks ds q ew mu hd ho
        subst ew
        simp only [mu, hd] at h
        split at h
        · rename_i hc
          subst hc
          obtain ⟨dx, xs, hx, hl, hr⟩ := ho
          have h1 : tD C (callBD g 0 fs) σ H fun _ H2 => T.nx σ H2 := ⟨F, env, I, (FinS.bnd h).imp fun s e F1 H1 I1 s1 h1 v _ => h1 σ F1 H1 I1 (.refl _)⟩
          obtain ⟨v, hv', k⟩ := t_callB (E := E0) hn h1
          rw [hv] at hv'
          cases hv'
          exact ⟨q, dx, _, hv, hx, k⟩
        · exact h.elim
      cases s with
      | frz d => simp only [Sl.mut] at h; exact h.elim
      | exn c => simp only [Sl.mut] at h; exact h.elim
      | own d =>
        obtain ⟨q, rfl, _, _, ho⟩ := hs
        cases d with
        | obj c ks ds => exact fin c ks ds q rfl rfl rfl ho
        | _ => simp only [Sl.mut, Sl.d] at h; exact h.elim
      | bor d =>
        obtain ⟨q, rfl, _, _, ho⟩ := hs
        cases d with
        | obj c ks ds => exact fin c ks ds q rfl rfl rfl ho
        | _ => simp only [Sl.mut, Sl.d] at h; exact h.elim
end
theorem qsA_cons {X : Cx} {C : Cd} {c : Code} {st : Stmt} {rest : List Stmt} {g1 g2 : DS} (h1 : PSA X c st (tDS C g1)) (h2 : PSsA X c rest (tDS C g2)) : PSsA X c (st :: rest) (tDS C (seqD g1 g2)) :=
  PSsA.weak (psA_cons h1 h2) fun T σ H ⟨F, env, I, h⟩ => ⟨F, env, I, by
    unfold seqD at h
    cases e : g1 env with
    | no => rw [e] at h; exact h
    | er c fs z => rw [e] at h; exact h
    | ok o =>
      rw [e] at h
      cases o with
      | nx z => exact fun σ F' H' I s => ⟨F', z, I, FinS.le s h⟩
      | rt s z => exact h
      | bk z => exact h
      | ct z => exact h⟩
/-! ### what an __init__ leaves, told by outB -/
theorem fin_outB {K : PySem.W.Frag} {mg : Str → Option Value} {F H : Hp} {p : Addr} {r : R DEnv Out} {Q : VK}
    (h : match outB r with
      | .ok (s, [d]) => ∀ v F' H', ExtB p F H F' H' → F' p = none → Own K mg F' H' d p → ResO K mg F' H' H s v → Q v H'
      | _ => False) : FinS ⟨K, mg, F, H, fun q => q = p, W0, 0, "", false⟩ F r { nx := fun _ H' => Q .non H', rt := Q } := by
  cases r with
  | no => exact h
  | er c fs z => exact h.elim
  | ok o =>
    cases o with
    | nx z =>
      unfold outB at h
      cases e0 : z[0]? with
      | none => simp only [e0] at h
      | some q =>
        cases q with
        | none => simp only [e0] at h
        | some q =>
          cases q with
          | bor d =>
            simp only [e0] at h
            intro σ F' H' I s
            obtain ⟨x1, x2, x3⟩ := I.endB (vs := []) e0
            exact h _ F' H' x1 x2 x3 (show Rep K mg F' .non .non from rNon)
          | frz d => simp only [e0] at h
          | exn c => simp only [e0] at h
          | own d => simp only [e0] at h
    | rt t z =>
      unfold outB at h
      cases e0 : z[0]? with
      | none => simp only [e0] at h
      | some q =>
        cases q with
        | none => simp only [e0] at h
        | some q =>
          cases q with
          | bor d =>
            simp only [e0] at h
            intro v σ F' H' I s r
            obtain ⟨x1, x2, x3⟩ := I.endB (vs := []) e0
            exact h _ F' H' x1 x2 x3 r.out
          | frz d => simp only [e0] at h
          | exn c => simp only [e0] at h
          | own d => simp only [e0] at h
    | bk z => exact h.elim
    | ct z => exact h.elim
/-! ### classes whose __init__ takes arguments by place and by keyword -/
abbrev iniA (K : PySem.W.Frag) (mg : Str → Option Value) (x : Str) : Addr := He.ma K (clsA mg x) "__init__"
/-- a def __init__, whatever cells it holds -/
structure KwF (K : PySem.W.Frag) (st : Stmt) (kws : List (Str × V)) (fd : FuncData) : Prop where
  ex : ∃ (qual : Str) (cl : List (Str × Addr)) (kV doc pm : Value) (an : Option Addr) (cdv ct : Value), fd = PySem.W.fnX "__init__" qual (defArgs st) (defBody st) (defScope st) cl .none kV doc pm an cdv ct ∧ KwdV K kV kws
/-- the def __init__ of x, with the cell of __class__ -/
structure FunS (K : PySem.W.Frag) (mg : Str → Option Value) (x qual : Str) (st : Stmt) (kws : List (Str × V)) (f c cc : Addr) (fd : FuncData) : Prop where
  ex : ∃ (oc : Value) (od : Option Addr) (kV doc pm : Value) (an : Option Addr) (ct : Value) (osl : Array (Option Value)), fd = PySem.W.fnX "__init__" qual (defArgs st) (defBody st) (defScope st) [("__class__", cc)] .none kV doc pm an (.ref c) ct ∧ K.lookup f = some ⟨oc, od, .func fd, osl⟩ ∧ KwdV K kV kws
  cd : PySem.W.codeIn K (.ref c) qual = true
  cell : ∃ cl cld csl, K.lookup cc = some ⟨cl, cld, .cell (some (.ref (clsA mg x))), csl⟩
def InitM (K : PySem.W.Frag) (mg : Str → Option Value) (x qual : Str) (st : Stmt) (kws : List (Str × V)) : Prop :=
  ∃ fd, Mk K (clsA mg x) (iniA K mg x) ∧ FunD K "__init__" qual (defArgs st) (defBody st) (defScope st) [] kws (iniA K mg x) fd
def InitS (K : PySem.W.Frag) (mg : Str → Option Value) (x qual : Str) (st : Stmt) (kws : List (Str × V)) : Prop :=
  ∃ fd c cc, Mk K (clsA mg x) (iniA K mg x) ∧ FunS K mg x qual st kws (iniA K mg x) c cc fd
structure OkM (P : Program) (w : World) (K : PySem.W.Frag) (mg : Str → Option Value) (base : Heap) (C : CXT) (x : Str) (st : Stmt) (k : Nat) (ps : List Str) (kws : List (Str × V)) (sp : Sp) : Prop where
  ex : ∃ fd, Mk K (clsA mg x) (iniA K mg x) ∧ KwF K st kws fd ∧ FnOk P w K mg base C k (iniA K mg x) fd ps sp ∧ mg x = some (.ref (clsA mg x))
section
variable {P : Program} {w : World} {K : PySem.W.Frag} {mg : Str → Option Value} {base : Heap} {x qual : Str} {st : Stmt} {kws : List (Str × V)} {N ps : List Str} {k : Nat} {g : DS}
theorem InitM.okB (D : InitM K mg x qual st kws) (hg : mg x = some (.ref (clsA mg x))) (S : FnScope N ps (defScope st)) (hN : 0 < N.length)
    (hb : ∀ (f : Addr) (cdv : Value) (A : Around) (outer : List Env) (s : Shared) (H : Hp) (E : XK) (F : Hp) (p : Addr), Room k (A.deeper (envOfC qual (defScope st) s.heap.objs.size f cdv)) → Fit (cxOf CX0 P w K mg base N qual (defScope st) f cdv A outer s H E).nox ⟨K, mg, F, H, fun q => q = p, W0, 0, "", false⟩ →
      PSs (cxOf CX0 P w K mg base N qual (defScope st) f cdv A outer s H E).nox (defBody st) (tDS ⟨K, mg, F, H, fun q => q = p, W0, 0, "", false⟩ g)) : OkM P w K mg base CX0 x st (k + 1) ps kws (spB K mg ps.length (bodyB N.length g)) := by
  obtain ⟨fd, M, F⟩ := D
  refine ⟨fd, M, ?_, F.ok S (fun vs H Q E h => h.1) (fun cdv A outer s H vs Q E hr h => ?_), hg⟩
  · obtain ⟨oc, od, dV, kV, doc, pm, an, cdv, ct, osl, e, lk, hcd, hD, hK⟩ := F.ex
    rcases hD with ⟨_, rfl⟩ | ⟨e, _⟩
    · exact ⟨qual, [], kV, doc, pm, an, cdv, ct, e, hK⟩
    · exact absurd rfl e
  · obtain ⟨hl, Fz, d0, ds, p, vr, rfl, sm, nF, ow, r, h⟩ := h
    exact ⟨_, PSs.nox (hb _ cdv A outer s H E Fz p hr ⟨rfl, rfl⟩), Fz, _, In.startB hN sm nF ow r, fin_outB h⟩
theorem start_cell {N : List Str} {vs : List V} {d : V} : NdefX.startF N vs [some d] = L2.start N (vs ++ [d]) := by
  unfold NdefX.startF L2.start
  rw [List.map_append, List.append_assoc, List.length_append]
  have e : N.length - vs.length - [some d].length = N.length - (vs.length + [d].length) := by
    show N.length - vs.length - 1 = N.length - (vs.length + 1)
    omega
  rw [e]
  rfl
open NdefX in
theorem InitS.okB (D : InitS K mg x qual st kws) (hg : mg x = some (.ref (clsA mg x))) (S : NScope N ps ["__class__"] (defScope st)) (hN : 0 < N.length)
    (hb : ∀ (f c cc : Addr) (fd : FuncData), FunS K mg x qual st kws f c cc fd → ∀ (A : Around) (outer : List Env) (s : Shared) (H : Hp) (E : XK) (F : Hp) (p : Addr), Room k (A.deeper (envF ⟨"__init__", qual, defArgs st, defBody st, defScope st, [("__class__", cc)], c⟩ f s.heap.objs.size)) →
      Fit (ncx CX0 P w K mg base N ⟨"__init__", qual, defArgs st, defBody st, defScope st, [("__class__", cc)], c⟩ f A outer s H E).nox ⟨K, mg, F, H, fun q => q = p, W0, 0, "", false⟩ →
      PSsA (ncx CX0 P w K mg base N ⟨"__init__", qual, defArgs st, defBody st, defScope st, [("__class__", cc)], c⟩ f A outer s H E).nox (.func (defBody st) (envF ⟨"__init__", qual, defArgs st, defBody st, defScope st, [("__class__", cc)], c⟩ f s.heap.objs.size)) (defBody st) (tDS ⟨K, mg, F, H, fun q => q = p, W0, 0, "", false⟩ g)) :
    OkM P w K mg base CX0 x st (k + 1) ps kws (spB K mg ps.length fun ds => bodyB N.length g (ds ++ [.cls x])) := by
  obtain ⟨fd, c, cc, M, F⟩ := D
  have F0 := F
  obtain ⟨⟨oc, od, kV, doc, pm, an, ct, osl, rfl, lk, hK⟩, hcd, hcell⟩ := F
  refine ⟨_, M, ⟨qual, _, kV, doc, pm, an, _, ct, rfl, hK⟩, fn_ofS lk hcd S hcell (fun vs H Q E h => h.1) (fun A outer s H vs Q E hr h => ?_), hg⟩
  obtain ⟨hl, Fz, d0, ds, p, vr, rfl, sm, nF, ow, r, h⟩ := h
  refine ⟨_, PSsA.nox (hb _ c cc _ F0 A outer s H E Fz p hr ⟨rfl, rfl⟩), Fz, _, ?_, fin_outB h⟩
  rw [start_cell]
  have rc : Rep K mg Fz (.cls x) (.ref (clsA mg x)) := by unfold Rep; rfl
  exact In.startB hN sm nF ow (r.app (repCons rc repNil))
end
section
variable {K : PySem.W.Frag} {st : Stmt} {fd : FuncData} {kws : List (Str × V)} {ns kwo ks ps : List Str} {is : List (Option Nat)} {dv : List V}
theorem KwF.kbn (F : KwF K st kws fd) (S : ShapeF st ns kwo ks is) (hps : ps = ns ++ kwo) (hk : kws ≠ []) (hd : dv.length = kwo.length) (hm : ∀ q ∈ kwo.zip dv, posOf ks q.1 = none → q ∈ kws) :
    ∃ ds : List Value, KBn K fd ps ns.length ks (fun us ws => us ++ fill is ds ws) (fun vs zs => vs ++ fill is dv zs) := by
  obtain ⟨qual, cl, kV, doc, pm, an, cdv, ct, rfl, hK⟩ := F.ex
  rcases hK with e | ⟨D, rfl, hq⟩
  · exact absurd e hk
  · obtain ⟨ds, l, r, a⟩ := dv_vals (K := K) (D := D) (posOf ks) kwo dv hd fun q h1 h2 => hq q (hm q h1 h2)
    refine ⟨ds, ⟨fun s us ws X l1 l2 => BindsTo.of_looks fun M => ?_, fun r1 r2 => r1.append (vals_fill r2 is r)⟩⟩
    rw [hps, ← S.ei]
    exact binds_kw (x := "__init__") (qual := qual) (body := defBody st) (scope := defScope st) (doc := doc) (pm := pm) (an := an) (cdv := cdv) (ct := ct) X S.po S.va S.ka S.hns S.hkw S.nd S.nk S.sk l1 l2 l a
theorem KwF.kb0 (F : KwF K st kws fd) (S : ShapeF st ns kwo [] is) (hps : ps = ns ++ kwo) (hk : kws ≠ []) (hd : dv.length = kwo.length) (hm : ∀ q ∈ kwo.zip dv, q ∈ kws) :
    ∃ ds : List Value, Vals dv ds ∧ Binds K fd ps ds := by
  obtain ⟨qual, cl, kV, doc, pm, an, cdv, ct, rfl, hK⟩ := F.ex
  rcases hK with e | ⟨D, rfl, hq⟩
  · exact absurd e hk
  · obtain ⟨ds, l, r, a⟩ := dv_vals (K := K) (D := D) (posOf []) kwo dv hd fun q h1 h2 => hq q (hm q h1)
    refine ⟨ds, r, fun s us X hl => BindsTo.of_looks fun M => ?_⟩
    rw [hps, List.length_append, List.length_append] at hl
    have := binds_kw (M := M) (ds := ds) (us := us) (ws := []) (x := "__init__") (qual := qual) (body := defBody st) (scope := defScope st) (doc := doc) (pm := pm) (an := an) (cdv := cdv) (ct := ct) X S.po S.va S.ka S.hns S.hkw S.nd S.nk S.sk (by omega) rfl l a
    rw [fill_none kwo ds l] at this
    rw [hps]
    exact this
end
/-- C(e, .., k = v, ..) -/
def makePD (g : DF) (c : Str) (pk : List D → List D → List D) (fs kfs : List DE) : DE := fun env => (argsD fs env).bind fun p => (argsD kfs p.2).bind fun q => newD g c (pk p.1 q.1) q.2
/-- C(e, ..), where defaults dfs fill up -/
def makeQD (g : DF) (c : Str) (dfs : List D) (fs : List DE) : DE := fun env => (argsD fs env).bind fun p => newD g c (p.1 ++ dfs) p.2
section
variable {X : Cx} {C : Cd} {x : Str} {st : Stmt} {ns ps ks kwo : List Str} {is : List (Option Nat)} {k : Nat} {kws : List (Str × V)} {dv : List V} {dfs : List D} {g : DF} {fs kfs : List DE} {kk : List Keyword} {e : Expr} {es : List Expr} {p pos : Pos}
theorem qe_makeP (ft : Fit X C) (O : OkM X.prog X.w X.K X.mg X.base CX0 x st k ps kws (spB X.K X.mg ps.length g)) (S : ShapeF st ("self" :: ns) kwo ks is) (hr : Room (k + 1) X.A) (hg : Gl X x) (ha : PA X (e :: es) (tDA C fs)) (hkw : PK X kk (tDA C kfs)) (hd : dv.length = kwo.length) (hm : ∀ q ∈ kwo.zip dv, posOf ks q.1 = none → q ∈ kws) (hdf0 : ∀ F, RepL X.K X.mg F dfs dv)
    (hnf : fs.length = ns.length := by rfl) (hnk : kfs.length = ks.length := by rfl) (hni : is.length = dfs.length := by rfl) (hps : ps = ("self" : Str) :: (ns ++ kwo) := by rfl) (hk : kws ≠ [] := by exact fun z => by cases z)
    (hall : (backToKw pos (keywordEach kk X.env)).all (·.1.isSome) = true := by rfl) (hks : (backToKw pos (keywordEach kk X.env)).filterMap (·.1) = ks := by rfl) (hdb : (x == ("__debug__" : Str)) = false := by decide)
    (he : starEach (e :: es) X.env = (false, eval e X.env) :: starEach es X.env := by rfl) (hpl : ((backTo pos (starEach (e :: es) X.env)).any (·.1) || (backToKw pos (keywordEach kk X.env)).any (·.1.isNone)) = false := by rfl) :
    PE X (.Call (.Name x p) (e :: es) kk pos) (tD C (makePD g x (fun vs zs => vs ++ fill is dfs zs) fs kfs)) := by
  have hdf : ∀ F, RepL C.K C.mg F dfs dv := by rw [← ft.k, ← ft.m]; exact hdf0
  obtain ⟨fd, M, KF, G, m⟩ := O
  obtain ⟨ds0, kb⟩ := KF.kbn S (ps := ps) hps hk hd hm
  have q := pe_makeK (p := p) M G hr hg m kb pass0 ha hkw hall hks hdb he hpl
  rw [ft.k, ft.m] at q
  refine PE.weak q fun σ H Q ⟨F, env, I, h⟩ => ?_
  show tDA C fs σ H fun vs H1 => tDA C kfs σ H1 fun zs H2 => _
  unfold makePD at h
  refine ⟨F, env, I, ?_⟩
  cases ea : argsD fs env with
  | no => rw [ea] at h; exact h
  | er c fs z => rw [ea] at h; exact h
  | ok r =>
    rw [ea] at h
    simp only [R.bind_ok] at h
    intro F1 H1 I1 s1 vs rv
    refine ⟨F1, r.2, I1, ?_⟩
    cases eb : argsD kfs r.2 with
    | no => rw [eb] at h; exact h
    | er c fs z => rw [eb] at h; exact Fin.le s1 h
    | ok r2 =>
      rw [eb] at h
      simp only [R.bind_ok] at h
      intro F2 H2 I2 s2 zs rz
      have hdl := (hdf F).len
      refine ⟨by rw [rv.len, argsD_len ea, hnf], by rw [rz.len, argsD_len eb, hnk], ?_⟩
      have rf : RepL C.K C.mg F2 (r.1 ++ fill is dfs r2.1) (vs ++ fill is dv zs) := (rv.mono s2).app (rep_fill rz is (hdf F2))
      refine new_of I2 rf ?_ (Fin.le (s1.trans s2) h)
      show (vs ++ fill is dv zs).length + 1 = ps.length
      rw [rf.len, List.length_append, fill_len hni, ← hdl, hd, hps, argsD_len ea, hnf, List.length_cons, List.length_append]
theorem qe_makeQ (ft : Fit X C) (O : OkM X.prog X.w X.K X.mg X.base CX0 x st k ps kws (spB X.K X.mg ps.length g)) (S : ShapeF st ("self" :: ns) kwo [] is) (hr : Room (k + 1) X.A) (hg : Gl X x) (ha : PA X (e :: es) (tDA C fs)) (hd : dv.length = kwo.length) (hm : ∀ q ∈ kwo.zip dv, q ∈ kws) (hdf0 : ∀ F, RepL X.K X.mg F dfs dv)
    (hnf : fs.length = ns.length := by rfl) (hps : ps = ("self" : Str) :: (ns ++ kwo) := by rfl) (hk : kws ≠ [] := by exact fun z => by cases z) (hdb : (x == ("__debug__" : Str)) = false := by decide)
    (he : starEach (e :: es) X.env = (false, eval e X.env) :: starEach es X.env := by rfl) (hpl : (backTo pos (starEach es X.env)).any (·.1) = false := by rfl) :
    PE X (.Call (.Name x p) (e :: es) [] pos) (tD C (makeQD g x dfs fs)) := by
  have hdf : ∀ F, RepL C.K C.mg F dfs dv := by rw [← ft.k, ← ft.m]; exact hdf0
  obtain ⟨fd, M, KF, G, m⟩ := O
  obtain ⟨ds0, hv, hb⟩ := KF.kb0 S (ps := ps) hps hk hd hm
  have q := pe_make (p := p) M G hr hg m hb hv pass0 ha hdb he hpl
  rw [ft.k, ft.m] at q
  refine PE.weak q fun σ H Q ⟨F, env, I, h⟩ => ?_
  show tDA C fs σ H fun vs H1 => _
  unfold makeQD at h
  refine ⟨F, env, I, ?_⟩
  cases ea : argsD fs env with
  | no => rw [ea] at h; exact h
  | er c fs z => rw [ea] at h; exact h
  | ok r =>
    rw [ea] at h
    simp only [R.bind_ok] at h
    intro F1 H1 I1 s1 vs rv
    have hdl := (hdf F).len
    have rf : RepL C.K C.mg F1 (r.1 ++ dfs) (vs ++ dv) := rv.app (hdf F1)
    refine new_of I1 rf ?_ (Fin.le s1 h)
    show (vs ++ dv).length + 1 = ps.length
    rw [rf.len, List.length_append, ← hdl, hd, hps, argsD_len ea, hnf, List.length_cons, List.length_append]
end
end Dd

namespace Dd
open PySem PySem.Spec PyProof.Rows L2
/-! ### the head with methods that hold the cell of __class__ -/
def fnN (K : PySem.W.Frag) (p : Str × Option Str) : He.FnW := match K.lookup (He.fAd K p) with
  | some ⟨_, _, .func fd, _⟩ => some (fd.name, fd.qualname, fd.params, fd.body, fd.scope, fd.globals, fd.closure.map fun q => (q.1, 0), fd.builtins)
  | _ => none
def valN (d : He.DefD) : He.FnW := some (d.name, d.qual, d.params, .stmts d.body, d.scope, mainGlobals, [("__class__", 0)], builtinsNs)
def cellB (K : PySem.W.Frag) (x : Str) : List (Str × Addr) → Bool
  | [(_, cc)] => (match K.lookup cc with
    | some ⟨_, _, .cell (some (.ref a)), _⟩ => a == He.ga K x
    | _ => false)
  | _ => false
def fileB (fl : Str) : Option Value → Bool
  | some (.str file _) => fl == file
  | _ => false
def codeB (K : PySem.W.Frag) (fl : Str) : Value → Bool
  | .ref c => (match K.lookup c with
    | some ⟨_, _, .fields vs, _⟩ => fileB fl vs[2]?
    | _ => false)
  | _ => false
def noneB : Value → Bool
  | .none => true
  | _ => false
def okN (fl : Str) (d : He.DefD) (K : PySem.W.Frag) : Bool := match K.lookup (He.fAd K d.at_) with
  | some ⟨_, _, .func fd, _⟩ => PySem.W.codeIn K fd.code d.qual && (noneB fd.defaults && (He.kwdB K fd.kwdefaults (d.kws K) && (cellB K d.at_.1 fd.closure && codeB K fl fd.code)))
  | _ => false
abbrev AlS : Type := He.AlD × List He.FnW
def obsS (fl : Str) (ex : PySem.W.Frag → List Bool) (fn fs : List He.DefD) (K : PySem.W.Frag) : AlS := (obsZ (fun K => ex K ++ fs.map (okN fl · K)) fn K, fs.map fun d => fnN K d.at_)
def valS (fn fs : List He.DefD) : AlS := (He.valD fn, fs.map valN)
def selS (xs : List Str) (g : Addr → Option Obj) : List Addr := cStatics :: selG xs g
def obsSG (fl : Str) (xs : List Str) (ex : PySem.W.Frag → List Bool) (fn fs : List He.DefD) (g : Addr → Option Obj) : AlS := obsS fl ex fn fs (He.frG g (selS xs g))
def SaysS (fl : Str) (ex : PySem.W.Frag → List Bool) (fn fs : List He.DefD) (K : PySem.W.Frag) : Prop := obsS fl ex fn fs K = valS fn fs
def hookS (fl : Str) (xs : List Str) (ex : PySem.W.Frag → List Bool) (fn fs : List He.DefD) : PySem.W.Hook where
  α := AlS
  obs := fun s => obsSG fl xs ex fn fs s.heap.get?
  val := fun _ => valS fn fs
  says := fun _ h => ∃ K : PySem.W.Frag, K.In h ∧ SaysS fl ex fn fs K
  of := fun _ _ e => ⟨_, He.frG_in, e⟩
  keeps := fun _ _ _ ⟨K, hK, c⟩ k => ⟨K, PySem.W.Frag.In.keeps hK k, c⟩
theorem obsSG_eq {fl : Str} {xs : List Str} {ex : PySem.W.Frag → List Bool} {fn fs : List He.DefD} {g : Addr → Option Obj} {s : Shared} (h : ∀ a, g a = s.heap.get? a) : obsSG fl xs ex fn fs g = (hookS fl xs ex fn fs).obs s := by
  have e : g = s.heap.get? := funext h
  rw [e] <;> rfl
/-- a method with the cell of __class__: what its object and its code object say -/
structure FunN (K : PySem.W.Frag) (fl : Str) (d : He.DefD) (f c cc : Addr) (fd : FuncData) : Prop where
  ex : ∃ (oc : Value) (od : Option Addr) (kV doc pm : Value) (an : Option Addr) (ct : Value) (osl : Array (Option Value)), fd = PySem.W.fnX d.name d.qual d.params d.body d.scope [("__class__", cc)] .none kV doc pm an (.ref c) ct ∧ K.lookup f = some ⟨oc, od, .func fd, osl⟩ ∧ KwdV K kV (d.kws K)
  cd : PySem.W.codeIn K (.ref c) d.qual = true
  cell : ∃ cl cld csl, K.lookup cc = some ⟨cl, cld, .cell (some (.ref (He.ga K d.at_.1))), csl⟩
  file : ∃ ccl cdd ccs vs file tf, K.lookup c = some ⟨ccl, cdd, .fields vs, ccs⟩ ∧ vs[2]? = some (.str file tf) ∧ (fl == file) = true
theorem funN_of {K : PySem.W.Frag} {fl : Str} {d : He.DefD} (e : fnN K d.at_ = valN d) (h : okN fl d K = true) : ∃ c cc fd, FunN K fl d (He.fAd K d.at_) c cc fd := by
  unfold fnN at e
  unfold okN at h
  cases q : K.lookup (He.fAd K d.at_) with
  | none => rw [q] at h; cases h
  | some o =>
    obtain ⟨oc, od, dt, osl⟩ := o
    rw [q] at h e
    cases dt with
    | func fd =>
      obtain ⟨n1, n2, n3, n4, n5, n6, n7, n8, n9, n10, n11, n12, n13, n14, n15⟩ := fd
      have e2 : (some (n1, n2, n3, n4, n5, n6, n7.map (fun q => ((q.1, 0) : Str × Addr)), n15) : He.FnW) = some (d.name, d.qual, d.params, FuncBody.stmts d.body, d.scope, mainGlobals, [(("__class__" : Str), (0 : Addr))], builtinsNs) := e
      simp only [Option.some.injEq, Prod.mk.injEq] at e2
      obtain ⟨h1, h2, h3, h4, h5, h6, h7, h8⟩ := e2
      subst h1 h2 h3 h4 h5 h6 h8
      have h : (PySem.W.codeIn K n13 d.qual && (noneB n8 && (He.kwdB K n9 (d.kws K) && (cellB K d.at_.1 n7 && codeB K fl n13)))) = true := h
      obtain ⟨k1, h⟩ := He.ba h
      obtain ⟨k2, h⟩ := He.ba h
      obtain ⟨k3, h⟩ := He.ba h
      obtain ⟨k4, k5⟩ := He.ba h
      match n7, h7, k4 with
      | [(y, cc)], h7, k4 =>
        simp only [List.map_cons, List.map_nil, List.cons.injEq, Prod.mk.injEq, and_true] at h7
        subst h7
        cases n8 <;> first | (cases k2; done) | skip
        cases n13 with
        | ref c =>
          refine ⟨c, cc, _, ⟨oc, od, n9, n10, n11, n12, n14, osl, rfl, q, He.kwdB_ok k3⟩, k1, ?_, ?_⟩
          · unfold cellB at k4
            simp only at k4
            cases qc : K.lookup cc with
            | none => rw [qc] at k4; cases k4
            | some o =>
              obtain ⟨a1, a2, dt, a4⟩ := o
              rw [qc] at k4
              cases dt with
              | cell v =>
                cases v with
                | none => cases k4
                | some u =>
                  cases u with
                  | ref a =>
                    obtain rfl := eq_of_beq (show (a == He.ga K d.at_.1) = true from k4)
                    exact ⟨_, _, _, rfl⟩
                  | _ => cases k4
              | _ => cases k4
          · unfold codeB at k5
            simp only at k5
            cases qc : K.lookup c with
            | none => rw [qc] at k5; cases k5
            | some o =>
              obtain ⟨a1, a2, dt, a4⟩ := o
              rw [qc] at k5
              cases dt with
              | fields vs =>
                have k5 : fileB fl vs[2]? = true := k5
                cases qv : vs[2]? with
                | none => rw [qv] at k5; cases k5
                | some u =>
                  rw [qv] at k5
                  cases u with
                  | str file tf => exact ⟨_, _, _, _, _, _, rfl, qv, k5⟩
                  | _ => cases k5
              | _ => cases k5
        | _ => cases k5
      | [], h7, _ => simp at h7
      | _ :: _ :: _, h7, _ => simp at h7
    | _ => cases h
section
variable {fl : Str} {ex : PySem.W.Frag → List Bool} {fn fs : List He.DefD} {K : PySem.W.Frag} {mg : Str → Option Value}
theorem SaysS.z (c : SaysS fl ex fn fs K) : SaysZ (fun K => ex K ++ fs.map (okN fl · K)) fn K := congrArg (fun z : AlS => z.1) c
theorem SaysS.at (c : SaysS fl ex fn fs K) (i : Nat) {b : Bool} (e : (ex K)[i]? = some b) : b = true := by
  refine c.z.at i ?_
  rw [List.getElem?_append_left (List.getElem?_eq_some_iff.mp e).1]
  exact e
theorem SaysS.def_ (c : SaysS fl ex fn fs K) (i : Nat) {d : He.DefD} (e : fn[i]? = some d) : ∃ fd, FunD K d.name d.qual d.params d.body d.scope (d.dvs K) (d.kws K) (He.fAd K d.at_) fd := c.z.def_ i e
theorem SaysS.meth (c : SaysS fl ex fn fs K) (i : Nat) {d : He.DefD} (e : fs[i]? = some d) : ∃ c cc fd, FunN K fl d (He.fAd K d.at_) c cc fd := by
  have e1 : fs.map (fun d => fnN K d.at_) = fs.map valN := congrArg (fun z : AlS => z.2) c
  have e2 : (fs.map fun d => fnN K d.at_)[i]? = (fs.map valN)[i]? := by rw [e1]
  rw [List.getElem?_map, List.getElem?_map, e] at e2
  refine funN_of (Option.some.inj e2) (c.z.at ((ex K).length + i) ?_)
  rw [List.getElem?_append_right (Nat.le_add_right ..), Nat.add_sub_cancel_left, List.getElem?_map, e]
  rfl
theorem mk_hk {x : Str} (g : mg x = some (.ref (He.ga K x))) (c : mkB K (He.ga K x) = true) : Mk K (clsA mg x) (iniA K mg x) := by
  have q := clsA_of g
  obtain ⟨c1, c⟩ := He.ba c
  obtain ⟨c2, c⟩ := He.ba c
  obtain ⟨c3, c4⟩ := He.ba c
  show Mk K (clsA mg x) (He.ma K (clsA mg x) "__init__")
  rw [q]
  exact ⟨c1, He.eqO_ok c2, c3, c4⟩
theorem initM_hk {x qual : Str} {st : Stmt} {kws : List (Str × V)} (g : mg x = some (.ref (He.ga K x))) (c : mkB K (He.ga K x) = true) (F : ∃ fd, FunD K "__init__" qual (defArgs st) (defBody st) (defScope st) [] kws (He.ma K (He.ga K x) "__init__") fd) : InitM K mg x qual st kws := by
  obtain ⟨fd, F⟩ := F
  refine ⟨fd, mk_hk g c, ?_⟩
  show FunD K _ _ _ _ _ _ _ (He.ma K (clsA mg x) "__init__") fd
  rw [clsA_of g]
  exact F
end
/-- the def __init__ of x with the cell, and the file of its code object -/
structure FunQ (K : PySem.W.Frag) (mg : Str → Option Value) (fl x qual : Str) (st : Stmt) (kws : List (Str × V)) (f c cc : Addr) (fd : FuncData) : Prop extends FunS K mg x qual st kws f c cc fd where
  file : ∃ ccl cdd ccs vs file tf, K.lookup c = some ⟨ccl, cdd, .fields vs, ccs⟩ ∧ vs[2]? = some (.str file tf) ∧ (fl == file) = true
def InitQ (K : PySem.W.Frag) (mg : Str → Option Value) (fl x qual : Str) (st : Stmt) (kws : List (Str × V)) : Prop :=
  ∃ fd c cc, Mk K (clsA mg x) (iniA K mg x) ∧ FunQ K mg fl x qual st kws (iniA K mg x) c cc fd
/-- what super() in the __init__ of x finds: the __init__ of y -/
structure SupC (K : PySem.W.Frag) (mg : Str → Option Value) (x y : Str) : Prop where
  hD : ∃ cd, PySem.W.clsIn K (clsA mg x) = some cd
  hsub : PySem.W.mroIn K (clsA mg x) (.ref (clsA mg x)) = some true
  hst : PySem.W.nsIn K cStatics "thirdparty.any" = some none
  hm : PySem.W.ks_superIn K (clsA mg x) (clsA mg x) "__init__" = some (some (.ref (iniA K mg y)))
  ht : PySem.W.typeIn K (.ref (iniA K mg y)) = some (.type "function")
  hfi : PySem.W.fnIn K (iniA K mg y) = true
section
variable {K : PySem.W.Frag} {mg : Str → Option Value}
theorem initQ_hk {fl x qual : Str} {st : Stmt} {kws : List (Str × V)} {d : He.DefD} (g : mg x = some (.ref (He.ga K x))) (c : mkB K (He.ga K x) = true) (F : ∃ c cc fd, FunN K fl d (He.fAd K d.at_) c cc fd) (hx : d.at_ = (x, some ("__init__" : Str)) := by rfl) (h1 : d.name = "__init__" := by rfl) (h2 : d.qual = qual := by rfl) (h3 : d.params = defArgs st := by rfl) (h4 : d.body = defBody st := by rfl) (h5 : d.scope = defScope st := by rfl) (h6 : d.kws K = kws := by rfl) :
    InitQ K mg fl x qual st kws := by
  obtain ⟨c0, cc, fd, F⟩ := F
  obtain ⟨f1, f2, f3, f4⟩ := F
  rw [hx] at f1 f3
  rw [h1, h2, h3, h4, h5, h6] at f1
  rw [h2] at f2
  refine ⟨fd, c0, cc, mk_hk g c, ⟨?_, f2, ?_⟩, f4⟩
  · show ∃ oc od kV doc pm an ct osl, _ ∧ K.lookup (He.ma K (clsA mg x) "__init__") = _ ∧ _
    rw [clsA_of g]
    exact f1
  · rw [clsA_of g]
    exact f3
def supB (K : PySem.W.Frag) (x y : Str) : Bool := (PySem.W.clsIn K (He.ga K x)).isSome && (decide (PySem.W.mroIn K (He.ga K x) (.ref (He.ga K x)) = some true) && (He.eqO (PySem.W.nsIn K cStatics "thirdparty.any") (some none) && (He.eqO (PySem.W.ks_superIn K (He.ga K x) (He.ga K x) "__init__") (some (some (.ref (He.ma K (He.ga K y) "__init__")))) && (decide (PySem.W.typeIn K (.ref (He.ma K (He.ga K y) "__init__")) = some (.type "function")) && PySem.W.fnIn K (He.ma K (He.ga K y) "__init__")))))
theorem sup_hk {x y : Str} (gx : mg x = some (.ref (He.ga K x))) (gy : mg y = some (.ref (He.ga K y))) (c : supB K x y = true) : SupC K mg x y := by
  obtain ⟨c1, c⟩ := He.ba c
  obtain ⟨c2, c⟩ := He.ba c
  obtain ⟨c3, c⟩ := He.ba c
  obtain ⟨c4, c⟩ := He.ba c
  obtain ⟨c5, c6⟩ := He.ba c
  have qx := clsA_of gx
  have qy : iniA K mg y = He.ma K (He.ga K y) "__init__" := by
    show He.ma K (clsA mg y) "__init__" = _
    rw [clsA_of gy]
  exact ⟨by rw [qx]; exact Option.isSome_iff_exists.mp c1, by rw [qx]; exact of_decide_eq_true c2, He.eqO_ok c3, by rw [qx, qy]; exact He.eqO_ok c4, by rw [qy]; exact of_decide_eq_true c5, by rw [qy]; exact c6⟩
theorem SupC.f {P : Program} {fl x y qual : Str} {st : Stmt} {kws : List (Str × V)} {f c cc : Addr} {fd : FuncData} (S : SupC K mg x y) (F : FunQ K mg fl x qual st kws f c cc fd) (hp : (P.main.file : Str) = fl) (ht : (P.main.scope.names.lookup ("super" : Str)).isSome = false) (ha : ∃ ar, ((defArgs st).posonlyargs ++ (defArgs st).args).head? = some ar ∧ ar.arg = "self") :
    SupF P K f c cc (clsA mg x) (clsA mg x) (iniA K mg y) "__init__" "self" := by
  obtain ⟨oc, od, kV, doc, pm, an, ct, osl, rfl, lk, hK⟩ := F.ex
  obtain ⟨ar, h1, h2⟩ := ha
  exact ⟨⟨oc, od, osl, _, ar, lk, h1, h2⟩, by rw [hp]; exact F.file, F.cell, S.hD, S.hsub, S.hst, S.hm, S.ht, S.hfi, ht⟩
theorem OkM.fnR {P : Program} {w : World} {base : Heap} {C : CXT} {x : Str} {st : Stmt} {k : Nat} {ps : List Str} {kws : List (Str × V)} {sp : Sp} (O : OkM P w K mg base C x st k ps kws sp)
    (b : ∀ (qual : Str) (cl : List (Str × Addr)) (kV doc pm : Value) (an : Option Addr) (cdv ct : Value) (us : List Value), us.length = ps.length → bindArgs (PySem.W.fnX "__init__" qual (defArgs st) (defBody st) (defScope st) cl .none kV doc pm an cdv ct) ⟨us, []⟩ = pure (ps.zip us)) : FnR P w K mg base C k (iniA K mg x) sp := by
  obtain ⟨fd, M, ⟨qual, cl, kV, doc, pm, an, cdv, ct, rfl, hK⟩, F, m⟩ := O
  exact fun A outer s H us vs Q E hr e0 r h => F.run A outer s H ⟨us, []⟩ us vs Q E hr e0 (.of_eq (b _ _ _ _ _ _ _ _ us (by rw [← r.length]; exact F.len _ _ _ _ h))) r h
end
theorem qsA_super {X : Cx} {C : Cd} {k n : Nat} {f cda cc : Addr} {x y : Str} {g : DF} {fs : List DE} {e : Expr} {es : List Expr} {pos pos' p0 p1 ap : Pos} {body : List Stmt} (ft : Fit X C)
    (S : SupF X.prog X.K f cda cc (clsA X.mg x) (clsA X.mg x) (iniA X.K X.mg y) "__init__" "self") (hmg : X.mg "super" = none) (F : FnR X.prog X.w X.K X.mg X.base CX0 k (iniA X.K X.mg y) (spB X.K X.mg n g)) (hr : Room k X.A) (ha : PA X (e :: es) (tDA C fs))
    (hfu : X.env.func = some f) (hco : X.env.code = .ref cda) (hcl : X.env.cells.lookup ("__class__" : Str) = some cc) (hn : fs.length + 1 = n := by rfl)
    (hks : X.env.kindOf "super" = some .globalImplicit := by rfl) (hkc : X.env.kindOf "__class__" = some .free := by rfl) (hself : X.N[0]? = some ("self" : Str) := by rfl) (hloc : X.env.kindOf "self" = some .local := by rfl)
    (hst : starEach (e :: es) X.env = (false, eval e X.env) :: starEach es X.env := by rfl) (hpl : (backTo pos (starEach es X.env)).any (·.1) = false := by rfl) (hi : interactive X.env = false := by rfl) (hs : swapsWith (.Call (.Attribute (.Call (.Name "super" p0) [] [] p1) "__init__" ap) (e :: es) [] pos) none pos'.line X.env = pure false := by rfl)
    {pl : Sem Bool} (he : eval (.Call (.Attribute (.Call (.Name "super" p0) [] [] p1) "__init__" ap) (e :: es) [] pos) X.env = (do
      let ov ← attributeBase (.Call (.Name "super" p0) [] [] p1) "__init__" X.env (eval (.Call (.Name "super" p0) [] [] p1) X.env)
      standAt ap.atName
      let (f, first) ← holding [ov] (getMethod ov "__init__" pl)
      callWith pos f first (backTo pos (starEach (e :: es) X.env)) []) := by rfl) :
    PSA X (.func body X.env) (.Expr (.Call (.Attribute (.Call (.Name "super" p0) [] [] p1) "__init__" ap) (e :: es) [] pos) pos') (tDS C (supD x g fs)) := by
  have q := psA_super (ta := tDA C fs) (body := body) S hmg F hr pass0 ha hks hkc hself hloc hfu hco hcl (by decide) hst hpl hi hs he
  refine PSA.weak q fun T σ H h => ?_
  have q := t_sup hn h
  rw [← ft.k, ← ft.m] at q
  exact q
end Dd

namespace Dd
open PySem PySem.Spec PyProof.Rows L2
/-! ### methods with the cell, their bodies; C(e, ..) where nothing is left out; evaluation -/
theorem qssA_one {X : Cx} {C : Cd} {c : Code} {st : Stmt} {g : DS} (h : PSA X c st (tDS C g)) : PSsA X c [st] (tDS C g) := PSsA.weak (psA_cons h (.of pss_nil)) fun T σ H h => h
open NdefX in
theorem InitQ.okB {P : Program} {w : World} {K : PySem.W.Frag} {mg : Str → Option Value} {base : Heap} {fl x qual : Str} {st : Stmt} {kws : List (Str × V)} {N ps : List Str} {k : Nat} {g : DS} (D : InitQ K mg fl x qual st kws) (hg : mg x = some (.ref (clsA mg x))) (S : NScope N ps ["__class__"] (defScope st)) (hN : 0 < N.length)
    (hb : ∀ (f c cc : Addr) (fd : FuncData), FunQ K mg fl x qual st kws f c cc fd → ∀ (A : Around) (outer : List Env) (s : Shared) (H : Hp) (E : XK) (F : Hp) (p : Addr), Room k (A.deeper (envF ⟨"__init__", qual, defArgs st, defBody st, defScope st, [("__class__", cc)], c⟩ f s.heap.objs.size)) →
      Fit (ncx CX0 P w K mg base N ⟨"__init__", qual, defArgs st, defBody st, defScope st, [("__class__", cc)], c⟩ f A outer s H E).nox ⟨K, mg, F, H, fun q => q = p, W0, 0, "", false⟩ →
      PSsA (ncx CX0 P w K mg base N ⟨"__init__", qual, defArgs st, defBody st, defScope st, [("__class__", cc)], c⟩ f A outer s H E).nox (.func (defBody st) (envF ⟨"__init__", qual, defArgs st, defBody st, defScope st, [("__class__", cc)], c⟩ f s.heap.objs.size)) (defBody st) (tDS ⟨K, mg, F, H, fun q => q = p, W0, 0, "", false⟩ g)) :
    OkM P w K mg base CX0 x st (k + 1) ps kws (spB K mg ps.length fun ds => bodyB N.length g (ds ++ [.cls x])) := by
  obtain ⟨fd, c, cc, M, F⟩ := D
  have F0 := F
  obtain ⟨⟨⟨oc, od, kV, doc, pm, an, ct, osl, rfl, lk, hK⟩, hcd, hcell⟩, _⟩ := F
  refine ⟨_, M, ⟨qual, _, kV, doc, pm, an, _, ct, rfl, hK⟩, fn_ofS lk hcd S hcell (fun vs H Q E h => h.1) (fun A outer s H vs Q E hr h => ?_), hg⟩
  obtain ⟨hl, Fz, d0, ds, p, vr, rfl, sm, nF, ow, r, h⟩ := h
  refine ⟨_, PSsA.nox (hb _ c cc _ F0 A outer s H E Fz p hr ⟨rfl, rfl⟩), Fz, _, ?_, fin_outB h⟩
  rw [start_cell]
  have rc : Rep K mg Fz (.cls x) (.ref (clsA mg x)) := by unfold Rep; rfl
  exact In.startB hN sm nF ow (r.app (repCons rc repNil))
section
variable {X : Cx} {C : Cd} {x : Str} {st : Stmt} {ps : List Str} {k : Nat} {kws : List (Str × V)} {g : DF} {fs : List DE} {e : Expr} {es : List Expr} {p pos : Pos}
theorem qe_makeR (ft : Fit X C) (O : OkM X.prog X.w X.K X.mg X.base CX0 x st k ps kws (spB X.K X.mg ps.length g))
    (b : ∀ (qual : Str) (cl : List (Str × Addr)) (kV doc pm : Value) (an : Option Addr) (cdv ct : Value) (us : List Value), us.length = ps.length → bindArgs (PySem.W.fnX "__init__" qual (defArgs st) (defBody st) (defScope st) cl .none kV doc pm an cdv ct) ⟨us, []⟩ = pure (ps.zip us))
    (hr : Room (k + 1) X.A) (hg : Gl X x) (ha : PA X (e :: es) (tDA C fs)) (hnf : fs.length + 1 = ps.length := by rfl) (hdb : (x == ("__debug__" : Str)) = false := by decide)
    (he : starEach (e :: es) X.env = (false, eval e X.env) :: starEach es X.env := by rfl) (hpl : (backTo pos (starEach es X.env)).any (·.1) = false := by rfl) :
    PE X (.Call (.Name x p) (e :: es) [] pos) (tD C (makeQD g x [] fs)) := by
  obtain ⟨fd, M, ⟨qual, cl, kV, doc, pm, an, cdv, ct, rfl, hK⟩, G, m⟩ := O
  have q := pe_make (p := p) M G hr hg m (Binds.all (b qual cl kV doc pm an cdv ct)) .nil pass0 ha hdb he hpl
  rw [ft.k, ft.m] at q
  refine PE.weak q fun σ H Q ⟨F, env, I, h⟩ => ?_
  show tDA C fs σ H fun vs H1 => _
  unfold makeQD at h
  refine ⟨F, env, I, ?_⟩
  cases ea : argsD fs env with
  | no => rw [ea] at h; exact h
  | er c fs z => rw [ea] at h; exact h
  | ok r =>
    rw [ea] at h
    simp only [R.bind_ok, List.append_nil] at h
    intro F1 H1 I1 s1 vs rv
    have rf : RepL C.K C.mg F1 r.1 (vs ++ []) := by rw [List.append_nil]; exact rv
    refine new_of I1 rf ?_ (Fin.le s1 h)
    show (vs ++ []).length + 1 = ps.length
    rw [rf.len, argsD_len ea, hnf]
end
section
variable {env : DEnv} {X : Str → DEnv → Prop} {Q : Sl × DEnv → Prop} {T : Out → Prop}
theorem e_makeP {g : DF} {c : Str} {pk : List D → List D → List D} {fs kfs : List DE} : wE (makePD g c pk fs kfs env) Q X kq kq = wE (argsD fs env) (fun p => wE (argsD kfs p.2) (fun q => eQ (pk p.1 q.1) (fun ds => wE (newD g c ds q.2) Q X kq kq) kq) X kq kq) X kq kq := by
  unfold makePD
  rw [x_bind]
  refine wR_cg fun p => ?_
  rw [x_bind]
  rfl
theorem e_makeQ {g : DF} {c : Str} {dfs : List D} {fs : List DE} : wE (makeQD g c dfs fs env) Q X kq kq = wE (argsD fs env) (fun p => eQ (p.1 ++ dfs) (fun ds => wE (newD g c ds p.2) Q X kq kq) kq) X kq kq := by
  unfold makeQD
  rw [x_bind]
  rfl
theorem e_sup {x : Str} {g : DF} {fs : List DE} : wE (supD x g fs env) T X kq kq = slQ env[0]? (fun s => iQ s.mut (obQ s.d (fun c _ _ => iQ (decide (c = x)) (wE (exprD (callBD g 0 fs) env) T X kq kq) False kq kq) kq) False kq kq) kq := by
  unfold supD slQ
  cases env[0]? with
  | none => rfl
  | some o =>
    cases o with
    | none => rfl
    | some s =>
      simp only
      cases s.mut with
      | false => rfl
      | true =>
        simp only [iQ_t]
        cases s.d with
        | obj c ks ds =>
          simp only [ob_o]
          by_cases h : c = x
          · rw [if_pos h, decide_eq_true h]; rfl
          · rw [if_neg h, decide_eq_false h]; rfl
        | _ => rfl
end
end Dd

namespace Dd
open PySem PySem.Spec PyProof.Rows L2
/-! ### isinstance(x, C), isinstance(x, (C, D, ..)) for own classes -/
/-- the answer: tab tells it for the own classes of x -/
def isO (tab : Str → Option Bool) : D → Option Bool
  | .obj c _ _ => tab c
  | d => (tyN d).map fun _ => false
def isOA (d : D) : List (Str → Option Bool) → Option Bool
  | [] => some false
  | t :: r => match isO t d with
    | some true => some true
    | some false => isOA d r
    | none => none
def isOD (tab : Str → Option Bool) (fa : DE) : DE := fun env => (fa env).bind fun p => match isO tab p.1.d with
  | some b => .ok (.frz (.bl b), p.2)
  | none => .no
def isOTD (tabs : List (Str → Option Bool)) (fa : DE) : DE := fun env => (fa env).bind fun p => match isOA p.1.d tabs with
  | some b => .ok (.frz (.bl b), p.2)
  | none => .no
def kitT (K : PySem.W.Frag) (C : Addr) : Bool := (["NoneType", "bool", "int", "str", "list", "tuple", "dict"] : List String).all fun a => decide (PySem.W.kitOne K (.type a) (.ref C) = some false)
structure OwnT (K : PySem.W.Frag) (mg : Str → Option Value) (y : Str) (tab : Str → Option Bool) : Prop where
  g : mg y = some (.ref (clsA mg y))
  t : kitT K (clsA mg y) = true
  c : ∀ c b, tab c = some b → ClsF K mg c ∧ PySem.W.kitOne K (.ref (clsA mg c)) (.ref (clsA mg y)) = some b
def tyV (mg : Str → Option Value) : D → Option Value
  | .obj c _ _ => some (.ref (clsA mg c))
  | d => (tyN d).map Value.type
section
variable {K : PySem.W.Frag} {mg : Str → Option Value} {H : Hp} {d : D} {v : V} {y : Str} {tab : Str → Option Bool} {b : Bool}
theorem kitT_at {C : Addr} {a : String} (h : kitT K C = true) (ha : a ∈ (["NoneType", "bool", "int", "str", "list", "tuple", "dict"] : List String)) : PySem.W.kitOne K (.type a) (.ref C) = some false := of_decide_eq_true (List.all_eq_true.mp h a ha)
theorem own_ty (O : OwnT K mg y tab) (r : Rep K mg H d v) (h : isO tab d = some b) : ∃ t, tyV mg d = some t ∧ TyX K H v t := by
  cases d with
  | obj c ks ds =>
    obtain ⟨F, _⟩ := O.c c b h
    unfold Rep at r
    obtain ⟨a, dx, xs, rfl, h1, _⟩ := r
    exact ⟨_, rfl, .base (.ins h1 F.cl F.ha F.hn F.ht F.hm)⟩
  | ty n => cases h
  | cls n => cases h
  | _ => exact ⟨_, rfl, rep_ty r rfl⟩
theorem own_kit (O : OwnT K mg y tab) (h : isO tab d = some b) : ∃ t, tyV mg d = some t ∧ PySem.W.kitOne K t (.ref (clsA mg y)) = some b := by
  cases d with
  | obj c ks ds => exact ⟨_, rfl, (O.c c b h).2⟩
  | ty n => cases h
  | cls n => cases h
  | _ => cases h; exact ⟨_, rfl, kitT_at O.t (by simp)⟩
/-- the classes told, one behind another -/
inductive OwnTs (K : PySem.W.Frag) (mg : Str → Option Value) : List Str → List (Str → Option Bool) → Prop where
  | nil : OwnTs K mg [] []
  | cons {y : Str} {tab : Str → Option Bool} {ys : List Str} {tabs : List (Str → Option Bool)} : OwnT K mg y tab → OwnTs K mg ys tabs → OwnTs K mg (y :: ys) (tab :: tabs)
def ownV (mg : Str → Option Value) (ys : List Str) : List V := ys.map fun y => .ref (clsA mg y)
def ownU (mg : Str → Option Value) (ys : List Str) : List Value := ys.map fun y => .ref (clsA mg y)
theorem clsOwn : ∀ ys : List Str, Paired ClsV (ownV mg ys) (ownU mg ys)
  | [] => .nil
  | _ :: ys => .cons (.own _) (clsOwn ys)
theorem own_any {t : Value} {ys : List Str} {tabs : List (Str → Option Bool)} (O : OwnTs K mg ys tabs) (e : tyV mg d = some t) : ∀ {b : Bool}, isOA d tabs = some b → PySem.W.kitAny K t (ownU mg ys) = some b := by
  induction O with
  | nil => intro b h; cases h; rfl
  | cons o _ ih =>
    intro b h
    unfold isOA at h
    split at h
    · rename_i q
      cases h
      obtain ⟨t', e1, e2⟩ := own_kit o q
      rw [e] at e1
      cases e1
      exact kitAny_cons e2 (fun z => nomatch z) (fun _ => rfl)
    · rename_i q
      obtain ⟨t', e1, e2⟩ := own_kit o q
      rw [e] at e1
      cases e1
      exact kitAny_cons e2 (fun _ => ih h) (fun z => nomatch z)
    · cases h
end
section
variable {X : Cx} {C : Cd} {a : Expr} {fa : DE} {p pos p2 : Pos} {y : Str} {tab : Str → Option Bool}
theorem qe_isO (ft : Fit X C) (O : OwnT X.K X.mg y tab) (hg : Gl X "isinstance") (hm : X.mg "isinstance" = none) (hy : Gl X y) (ha : PE X a (tD C fa)) (hdb : (y == ("__debug__" : Str)) = false := by decide)
    (hx1 : starEach [a, .Name y p2] X.env = (false, eval a X.env) :: starEach [.Name y p2] X.env := by rfl) (hx2 : starEach [.Name y p2] X.env = (false, eval (.Name y p2) X.env) :: starEach [] X.env := by rfl) (hpl : (backTo pos (starEach [.Name y p2] X.env)).any (·.1) = false := by rfl) :
    PE X (.Call (.Name "isinstance" p) [a, .Name y p2] [] pos) (tD C (isOD tab fa)) := by
  have O' : OwnT C.K C.mg y tab := by rw [← ft.k, ← ft.m]; exact O
  have q := pe_callB (X := X) (x := "isinstance") (p := p) (pos := pos) call_isi hg hm (by decide +kernel) (pa_cons (qz ha) (pa_cons (pe_glob (pos := p2) (v := V.ref (clsA X.mg y)) hy O.g rfl hdb) pa_nil hx2) hx1) (by decide) (by decide) hx1 hpl
  rw [ft.k, ft.m] at q
  refine PE.weak q fun σ H Q ⟨F, env, I, h⟩ => ⟨F, env, I, (Fin.bnd h).imp fun s e F1 H1 I1 s1 h1 x rx => ?_⟩
  cases eg : isO tab s.d with
  | none => simp only [eg] at h1; exact h1.elim
  | some b =>
    simp only [eg] at h1
    obtain ⟨t, e1, h2⟩ := own_ty O' (rx.mono I1.fh) eg
    obtain ⟨t', e2, h3⟩ := own_kit O' eg
    rw [e1] at e2
    cases e2
    exact ⟨x, _, t, _, b, rfl, .own _, h2, h3, h1 _ _ I1 (.refl _) _ (show Rep C.K C.mg _ _ _ from rBl)⟩
/-- a written list of own classes -/
inductive OwnP (X : Cx) : List Expr → List Str → TA → Prop where
  | nil : OwnP X [] [] tNil
  | cons {e : Expr} {es : List Expr} {y : Str} {ys : List Str} {ta : TA} : PE X e (tC (.ref (clsA X.mg y))) → OwnP X es ys ta → OwnP X (e :: es) (y :: ys) (tCons (tC (.ref (clsA X.mg y))) ta)
theorem OwnP.ta {es : List Expr} {ys : List Str} {ta : TA} (h : OwnP X es ys ta) : ∀ σ H Q, Q (ownV X.mg ys) H → ta σ H Q := by
  induction h with
  | nil => exact fun σ H Q q => q
  | cons _ _ ih => exact fun σ H Q q => ih σ H _ q
theorem qe_isOT {es : List Expr} {ys : List Str} {tabs : List (Str → Option Bool)} {ta : TA} {tp : Pos} {k : Nat} (ft : Fit X C) (O : OwnTs X.K X.mg ys tabs) (hn : ys ≠ []) (hl : ys.length ≤ sizeLine) (ht : OwnP X es ys ta) (hes : PA X es ta) (hg : Gl X "isinstance") (hm : X.mg "isinstance" = none) (ha : PE X a (tD C fa))
    (hx1 : starEach [a, .Tuple es k tp] X.env = (false, eval a X.env) :: starEach [.Tuple es k tp] X.env := by rfl) (hx2 : starEach [.Tuple es k tp] X.env = (false, eval (.Tuple es k tp) X.env) :: starEach [] X.env := by rfl) (hpl : (backTo pos (starEach [.Tuple es k tp] X.env)).any (·.1) = false := by rfl) :
    PE X (.Call (.Name "isinstance" p) [a, .Tuple es k tp] [] pos) (tD C (isOTD tabs fa)) := by
  have O' : OwnTs C.K C.mg ys tabs := by rw [← ft.k, ← ft.m]; exact O
  have q := pe_callB (X := X) (x := "isinstance") (p := p) (pos := pos) call_isiT hg hm (by decide +kernel) (pa_cons (qz ha) (pa_cons (pe_tup (x1 := k) (pos := tp) hes) pa_nil hx2) hx1) (by decide) (by decide) hx1 hpl
  rw [ft.k] at q
  refine PE.weak q fun σ H Q ⟨F, env, I, h⟩ => ⟨F, env, I, (Fin.bnd h).imp fun s e F1 H1 I1 s1 h1 x rx => ht.ta σ H1 _ ⟨by unfold ownV; rw [List.length_map]; exact hl, fun tp ntp => ?_⟩⟩
  rw [ft.m]
  cases eg : isOA s.d tabs with
  | none => simp only [eg] at h1; exact h1.elim
  | some b =>
    simp only [eg] at h1
    have sF := I1.same (o := .tup (ownV C.mg ys)) ntp
    have I2 := I1.alloc (o := .tup (ownV C.mg ys)) ntp
    obtain ⟨t, e1, h2⟩ : ∃ t, tyV C.mg s.d = some t ∧ TyX C.K (upd H1 tp (.tup (ownV C.mg ys))) x t := by
      cases O' with
      | nil => exact absurd rfl hn
      | cons o _ =>
        unfold isOA at eg
        split at eg
        · rename_i q; exact own_ty o ((rx.mono sF).mono I2.fh) q
        · rename_i q; exact own_ty o ((rx.mono sF).mono I2.fh) q
        · cases eg
    exact ⟨x, tp, _, t, ownU C.mg ys, b, rfl, upd_same, clsOwn ys, h2, own_any O' e1 eg, h1 _ _ I2 sF _ (show Rep C.K C.mg _ _ _ from rBl)⟩
end
section
variable {env : DEnv} {X : Str → DEnv → Prop} {Q : Sl × DEnv → Prop} {fa : DE}
theorem e_isO {tab : Str → Option Bool} : wE (isOD tab fa env) Q X kq kq = wE (fa env) (fun p => oQ (isO tab p.1.d) (fun b => Q (.frz (.bl b), p.2)) kq) X kq kq := by
  unfold isOD
  rw [x_bind]
  refine wR_cg fun p => ?_
  cases isO tab p.1.d <;> rfl
theorem e_isOT {tabs : List (Str → Option Bool)} : wE (isOTD tabs fa env) Q X kq kq = wE (fa env) (fun p => oQ (isOA p.1.d tabs) (fun b => Q (.frz (.bl b), p.2)) kq) X kq kq := by
  unfold isOTD
  rw [x_bind]
  refine wR_cg fun p => ?_
  cases isOA p.1.d tabs <;> rfl
end
section
variable {K : PySem.W.Frag} {mg : Str → Option Value}
theorem ownk_hk {x y : Str} {b : Bool} (gx : mg x = some (.ref (He.ga K x))) (gy : mg y = some (.ref (He.ga K y))) (c : decide (PySem.W.kitOne K (.ref (He.ga K x)) (.ref (He.ga K y)) = some b) = true) : PySem.W.kitOne K (.ref (clsA mg x)) (.ref (clsA mg y)) = some b := by
  rw [clsA_of gx, clsA_of gy]
  exact of_decide_eq_true c
theorem kitT_hk {y : Str} (gy : mg y = some (.ref (He.ga K y))) (c : kitT K (He.ga K y) = true) : kitT K (clsA mg y) = true := by
  rw [clsA_of gy]
  exact c
end
end Dd

namespace Dd
open PySem PySem.Spec PyProof.Rows L2
/-! ### while -/
def whileD (c : DT) (g : DS) : Nat → DS
  | 0 => fun _ => .no
  | n + 1 => fun env => bindS (c env) fun p => match p.1 with
    | true => (match g p.2 with
      | .ok (.nx e) => whileD c g n e
      | .ok (.ct e) => whileD c g n e
      | .ok (.bk e) => .ok (.nx e)
      | .ok (.rt s e) => .ok (.rt s e)
      | .er k fs e => .er k fs e
      | .no => .no)
    | false => .ok (.nx p.2)
theorem qs_while {X : Cx} {C : Cd} {c : Expr} {body : List Stmt} {pos : Pos} {t : DT} {g : DS} {n : Nat} (hp : PassesOwn (model X.prog X.w) X.A X.env X.xe) (hc : PT X c (tDT C t)) (hb : PSs X body (tDS C g)) : PS X (.While c body [] pos) (tDS C (whileD t g n)) :=
  PS.weak (ps_while hp hc hb) fun T σ H ⟨F, env, I, h⟩ => by
    refine ⟨fun m σ H => ∃ F env, In C F H σ env ∧ FinS C F (whileD t g m env) T, ⟨n, F, env, I, h⟩, ?_⟩
    rintro m σ H ⟨F, env, I, h⟩
    cases m with
    | zero => exact h.elim
    | succ m =>
      unfold whileD at h
      refine ⟨F, env, I, (FinS.bnd h).imp fun b e F1 H1 I1 s1 h1 => ?_⟩
      cases b with
      | false => exact h1 σ F1 H1 I1 (.refl _)
      | true =>
        refine ⟨fun σ H => ∃ F env, In C F H σ env ∧ FinS C F (whileD t g m env) T, fun σ' H' q => ⟨m, Nat.lt_succ_self m, q⟩, F1, e, I1, ?_⟩
        simp only at h1
        cases eb : g e with
        | no => simp only [eb] at h1; exact h1
        | er k fs x => simp only [eb] at h1; exact h1
        | ok o =>
          cases o with
          | nx z => simp only [eb] at h1; exact fun σ3 F3 H3 I3 s3 => ⟨F3, z, I3, FinS.le s3 h1⟩
          | ct z => simp only [eb] at h1; exact fun σ3 F3 H3 I3 s3 => ⟨F3, z, I3, FinS.le s3 h1⟩
          | bk z => simp only [eb] at h1; exact fun σ3 F3 H3 I3 s3 => h1 σ3 F3 H3 I3 s3
          | rt w z => simp only [eb] at h1; exact fun v σ3 F3 H3 I3 s3 r3 => h1 v σ3 F3 H3 I3 s3 r3
/-! ### dicts: keys are ints and strings, or tuples of these -/
def keyD : D → Option Key
  | .int i => some (.inl i)
  | .str x => some (.inr x)
  | _ => none
def keysD : List D → Option (List Key)
  | [] => some []
  | d :: r => (keyD d).bind fun k => (keysD r).map (k :: ·)
section
variable {κ : Type} [DecidableEq κ]
def valD {α : Type} (k : κ) : List κ → List α → Option α
  | g :: r, d :: t => if g = k then some d else valD k r t
  | _, _ => none
def kPut (k : κ) (ks : List κ) : List κ := if k ∈ ks then ks else ks ++ [k]
def vRep {α : Type} (k : κ) (y : α) : List κ → List α → List α
  | g :: r, d :: t => (if g = k then y else d) :: vRep k y r t
  | _, t => t
def vPut {α : Type} (k : κ) (y : α) (ks : List κ) (ys : List α) : List α := if k ∈ ks then vRep k y ks ys else ys ++ [y]
theorem valV_zip (k : κ) : ∀ (ks : List κ) (xs : List V), valV (ks.zip xs) k = valD k ks xs
  | [], _ => by rw [List.zip_nil_left]; rfl
  | g :: r, [] => by rw [List.zip_nil_right]; rfl
  | g :: r, x :: t => by
    rw [List.zip_cons_cons, valD]
    by_cases e : g = k
    · rw [valV_pos (p := (g, x)) e, if_pos e]
    · rw [valV_neg (p := (g, x)) e, if_neg e, valV_zip k r t]
theorem any_zip (k : κ) : ∀ (ks : List κ) (xs : List V), ks.length = xs.length → ((ks.zip xs).any fun kv => decide (kv.1 = k)) = decide (k ∈ ks)
  | [], [], _ => by simp
  | g :: r, x :: t, h => by
    rw [List.zip_cons_cons, List.any_cons, any_zip k r t (by simpa using h)]
    by_cases e : g = k
    · simp [e]
    · simp [e, Ne.symm e]
theorem map_zip (k : κ) (y : V) : ∀ (ks : List κ) (xs : List V), (ks.zip xs).map (fun kv => if kv.1 = k then (kv.1, y) else kv) = ks.zip (vRep k y ks xs)
  | [], _ => by simp
  | g :: r, [] => by simp [vRep]
  | g :: r, x :: t => by
    rw [List.zip_cons_cons, List.map_cons, map_zip k y r t, vRep, List.zip_cons_cons]
    by_cases e : g = k <;> simp [e]
theorem put_zip (k : κ) (y : V) (ks : List κ) (xs : List V) (h : ks.length = xs.length) : L2.putK (ks.zip xs) k y = (kPut k ks).zip (vPut k y ks xs) := by
  unfold L2.putK kPut vPut
  rw [any_zip k ks xs h, map_zip]
  by_cases e : k ∈ ks
  · rw [if_pos (decide_eq_true e), if_pos e, if_pos e]
  · rw [if_neg (by rw [decide_eq_false e]; exact fun z => nomatch z), if_neg e, if_neg e, List.zip_append h]
    rfl
variable {K : PySem.W.Frag} {mg : Str → Option Value} {H : Hp}
theorem val_rep {k : κ} {d : D} : ∀ {ks : List κ} {ds : List D} {xs : List V}, RepL K mg H ds xs → valD k ks ds = some d → ∃ x, valD k ks xs = some x ∧ Rep K mg H d x
  | [], _, _, _, h => by cases h
  | _ :: _, [], _, _, h => by cases h
  | g :: r, e :: t, xs, q, h => by
    obtain ⟨x, xs', rfl, h1, h2⟩ := q.cons
    rw [valD] at h ⊢
    split at h
    · rename_i e; cases h; rw [if_pos e]; exact ⟨x, rfl, h1⟩
    · rename_i e; rw [if_neg e]; exact val_rep h2 h
theorem val_none {k : κ} : ∀ {ks : List κ} {ds : List D} {xs : List V}, RepL K mg H ds xs → valD k ks ds = none → valD k ks xs = none
  | [], _, _, _, _ => rfl
  | _ :: _, [], xs, q, _ => by rw [q.nil]; rfl
  | g :: r, e :: t, xs, q, h => by
    obtain ⟨x, xs', rfl, h1, h2⟩ := q.cons
    rw [valD] at h ⊢
    split at h
    · cases h
    · rename_i e; rw [if_neg e]; exact val_none h2 h
theorem vRep_rep {k : κ} {d : D} {y : V} (ry : Rep K mg H d y) : ∀ {ks : List κ} {ds : List D} {xs : List V}, RepL K mg H ds xs → RepL K mg H (vRep k d ks ds) (vRep k y ks xs)
  | [], _, _, q => by unfold vRep; exact q
  | _ :: _, [], xs, q => by rw [q.nil]; unfold vRep; exact repNil
  | g :: r, e :: t, xs, q => by
    obtain ⟨x, xs', rfl, h1, h2⟩ := q.cons
    rw [vRep, vRep]
    refine repCons ?_ (vRep_rep ry h2)
    by_cases e : g = k
    · rw [if_pos e, if_pos e]; exact ry
    · rw [if_neg e, if_neg e]; exact h1
theorem vPut_rep {k : κ} {d : D} {y : V} {ks : List κ} {ds : List D} {xs : List V} (ry : Rep K mg H d y) (q : RepL K mg H ds xs) : RepL K mg H (vPut k d ks ds) (vPut k y ks xs) := by
  unfold vPut
  by_cases e : k ∈ ks
  · rw [if_pos e, if_pos e]; exact vRep_rep ry q
  · rw [if_neg e, if_neg e]; exact q.app (repCons ry repNil)
theorem vRep_len {α : Type} {k : κ} {y : α} : ∀ {ks : List κ} {ys : List α}, (vRep k y ks ys).length = ys.length
  | [], _ => by unfold vRep; rfl
  | _ :: _, [] => by unfold vRep; rfl
  | g :: r, e :: t => by rw [vRep, List.length_cons, vRep_len, List.length_cons]
theorem vPut_len {α : Type} {k : κ} {y : α} {ks : List κ} {ys : List α} (h : ks.length = ys.length) : (kPut k ks).length = (vPut k y ks ys).length := by
  unfold kPut vPut
  by_cases e : k ∈ ks
  · rw [if_pos e, if_pos e, vRep_len]; exact h
  · rw [if_neg e, if_neg e]; simp [h]
end
theorem key_rep {K : PySem.W.Frag} {mg : Str → Option Value} {H : Hp} {d : D} {v : V} {k : Key} (r : Rep K mg H d v) (h : keyD d = some k) : v = kV k := by
  cases d <;> first | (cases h; done) | skip
  · cases h; exact r.int
  · cases h; exact r.str
theorem keys_rep {K : PySem.W.Frag} {mg : Str → Option Value} {H : Hp} : ∀ {ds : List D} {vs : List V} {ks : List Key}, RepL K mg H ds vs → keysD ds = some ks → vs = ks.map kV
  | [], vs, ks, r, h => by cases h; rw [r.nil]; rfl
  | d :: ds, vs, ks, r, h => by
    obtain ⟨x, t, rfl, h1, h2⟩ := r.cons
    unfold keysD at h
    cases ek : keyD d with
    | none => rw [ek] at h; cases h
    | some k =>
      cases er : keysD ds with
      | none => rw [ek, er] at h; cases h
      | some r' =>
        rw [ek, er] at h
        cases h
        rw [key_rep h1 ek, keys_rep h2 er]
        rfl
/-- d[y], y an int or a string -/
def gDGet : D → D → Option D
  | .dK ks ds, y => (keyD y).bind fun k => valD k ks ds
  | _, _ => none
def dgetD (fo fi : DE) : DE := fun env => (fo env).bind fun p => (fi p.2).bind fun q => match gDGet p.1.d q.1.d with
  | some d => .ok (.frz d, q.2)
  | none => .no
/-- d[y1, y2, ..] -/
def gDGetT : D → List D → Option D
  | .dT ks ds, ys => (keysD ys).bind fun k => valD k ks ds
  | _, _ => none
def dgetTD (fo : DE) (fs : List DE) : DE := fun env => (fo env).bind fun p => (argsD fs p.2).bind fun q => match gDGetT p.1.d q.1 with
  | some d => .ok (.frz d, q.2)
  | none => .no
section
variable {X : Cx} {C : Cd} {o i : Expr} {fo fi : DE} {fs : List DE} {pos tp : Pos} {es : List Expr} {k : Nat}
theorem qe_dget (ft : Fit X C) (hu : X.A.units + 1 < cLine) (ho : PE X o (tD C fo)) (hi : PE X i (tD C fi)) (hs : NoSl i := by exact fun _ _ => rfl) : PE X (.Subscript o i pos) (tD C (dgetD fo fi)) :=
  PE.weak (pe_dget hu (qz ho) (qz hi) hs) fun σ H Q ⟨F, env, I, h⟩ => ⟨F, env, I, (Fin.bnd h).imp fun s e F1 H1 I1 s1 h1 x rx => ⟨F1, e, I1, (Fin.bnd h1).imp fun t e2 F2 H2 I2 s2 h2 y ry => by
    cases eg : gDGet s.d t.d with
    | none => simp only [eg] at h2; exact h2.elim
    | some d =>
      simp only [eg] at h2
      unfold gDGet at eg
      split at eg
      · rename_i ks ds y' ed
        cases ek : keyD t.d with
        | none => rw [ek] at eg; cases eg
        | some k =>
          rw [ek] at eg
          rw [ed] at rx
          unfold Rep at rx
          obtain ⟨a, xs, rfl, ha, hl, hr⟩ := rx
          obtain ⟨w, hw, rw'⟩ := val_rep hr eg
          exact ⟨a, w, rfl, .inl ⟨_, k, rd_mono I2.fh (rd_mono s2 ha), key_rep ry ek, by rw [valV_zip, hw]⟩, h2 F2 H2 I2 (.refl _) w (rw'.mono s2)⟩
      · cases eg⟩⟩
end
end Dd

namespace Dd
open PySem PySem.Spec PyProof.Rows L2
/-! ### d[y1, y2], d[y] = e, d[y1, y2] = e -/
/-- d[y] = e, d in slot i -/
def dputD (i : Nat) (fe fk : DE) : DS := fun env => bindS (fe env) fun p => match p.2[i]? with
  | some (some _) => bindS (fk p.2) fun q => (match q.2[i]? with
    | some (some s) => (match s.mut, s.d, keyD q.1.d with
      | true, .dK ks ds, some k => if ds.length < lim then .ok (.nx (q.2.set i (some (s.put (.dK (kPut k ks) (vPut k p.1.d ks ds)))))) else .no
      | _, _, _ => .no)
    | _ => .no)
  | _ => .no
/-- d[y1, ..] = e, d in slot i -/
def dputTD (i : Nat) (fe : DE) (fs : List DE) : DS := fun env => bindS (fe env) fun p => match p.2[i]? with
  | some (some _) => bindS (argsD fs p.2) fun q => (match q.2[i]? with
    | some (some s) => (match s.mut, s.d, keysD q.1 with
      | true, .dT ks ds, some k => if ds.length < lim then .ok (.nx (q.2.set i (some (s.put (.dT (kPut k ks) (vPut k p.1.d ks ds)))))) else .no
      | _, _, _ => .no)
    | _ => .no)
  | _ => .no
section
variable {X : Cx} {C : Cd} {o e : Expr} {fo fe fk : DE} {fs : List DE} {pos pos' tp : Pos} {es : List Expr} {k i : Nat} {y : Expr}
theorem qe_dgetT (ft : Fit X C) (hu : X.A.units + 1 < cLine) (ho : PE X o (tD C fo)) (ha : PA X es (tDA C fs)) (hl : fs.length ≤ sizeLine := by decide) (hs : NoSl (.Tuple es k tp) := by exact fun _ _ => rfl) : PE X (.Subscript o (.Tuple es k tp) pos) (tD C (dgetTD fo fs)) :=
  PE.weak (pe_dget hu (qz ho) (pe_tup (x1 := k) (pos := tp) ha) hs) fun σ H Q ⟨F, env, I, h⟩ => ⟨F, env, I, (Fin.bnd h).imp fun s e F1 H1 I1 s1 h1 x rx => ⟨F1, e, I1, by
    cases ea : argsD fs e with
    | no => rw [ea] at h1; exact h1
    | er c fs z => rw [ea] at h1; exact h1
    | ok r =>
      rw [ea] at h1
      simp only [R.bind_ok] at h1
      intro F2 H2 I2 s2 vs rv
      refine ⟨by rw [rv.len, argsD_len ea]; exact hl, fun p np => ?_⟩
      have sF := I2.same (o := .tup vs) np
      have I3 := I2.alloc (o := .tup vs) np
      cases eg : gDGetT s.d r.1 with
      | none => simp only [eg] at h1; exact h1.elim
      | some d =>
        simp only [eg] at h1
        unfold gDGetT at eg
        split at eg
        · rename_i ks ds ys ed
          cases ek : keysD r.1 with
          | none => rw [ek] at eg; cases eg
          | some kk =>
            rw [ek] at eg
            rw [ed] at rx
            unfold Rep at rx
            obtain ⟨a, xs, rfl, ha, hl', hr⟩ := rx
            obtain ⟨w, hw, rw'⟩ := val_rep hr eg
            have h2a := I2.fh _ _ (s2 _ _ ha)
            have hap : a ≠ p := fun z => by rw [z, np] at h2a; cases h2a
            exact ⟨a, w, rfl, .inr ⟨_, kk, p, .inl (by rw [upd_ne hap]; exact h2a), rfl, by rw [upd_same, keys_rep rv ek], by rw [valV_zip, hw]⟩, h1 _ _ I3 (s2.trans sF) w ((rw'.mono s2).mono sF)⟩
        · cases eg⟩⟩
theorem lt_size {n : Nat} (h : n < lim) : n < sizeLine := Nat.lt_of_lt_of_le h (by decide)
theorem qs_dput (ft : Fit X C) (hu : X.A.units + 1 < cLine) (ho : PE X o (tVar i)) (hy : PE X y (tD C fk)) (he : PE X e (tD C fe)) (hs : swapsWith e (some (.Subscript o y pos')) pos.line X.env = pure false := by rfl) : PS X (.Assign [.Subscript o y pos'] e pos) (tDS C (dputD i fe fk)) :=
  PS.weak (ps_dput hu ho (qz hy) (qz he) hs) fun T σ H ⟨F, env, I, h⟩ => ⟨F, env, I, (FinS.bnd h).imp fun s e F1 H1 I1 s1 h1 v rv => by
    cases ei : e[i]? with
    | none => simp only [ei] at h1; exact h1.elim
    | some z =>
      cases z with
      | none => simp only [ei] at h1; exact h1.elim
      | some s0 =>
        simp only [ei] at h1
        obtain ⟨w, hv, _⟩ := I1.sl i s0 ei
        refine ⟨w, hv, F1, e, I1, (FinS.bnd h1).imp fun t e2 F2 H2 I2 s2 h2 y ry => ?_⟩
        cases e1 : e2[i]? with
        | none => simp only [e1] at h2; exact h2.elim
        | some z =>
          cases z with
          | none => simp only [e1] at h2; exact h2.elim
          | some u =>
            simp only [e1] at h2
            obtain ⟨v', hv', hs⟩ := I2.sl i u e1
            rw [hv] at hv'
            cases hv'
            have fin : ∀ ks zs p, w = .ref p → u.mut = true → u.d = .dK ks zs → Own C.K C.mg F2 H2 (.dK ks zs) p → ∃ a H4, w = .ref a ∧ DPut H2 a y v H4 ∧ T.nx σ H4 := by
              intro ks zs p ew mu hd ho
              subst ew
              obtain ⟨ys, hy, hl, rys⟩ := ho
              cases hk : keyD t.d with
              | none => simp only [mu, hd, hk] at h2; exact h2.elim
              | some k =>
                simp only [mu, hd, hk] at h2
                split at h2
                · rename_i hlt
                  have lx : ks.length = ys.length := by rw [hl, rys.len]
                  refine ⟨p, _, rfl, .inl ⟨_, k, hy, key_rep ry hk, ?_, rfl⟩, h2 σ F2 _ (I2.change e1 mu hv ⟨vPut k v ks ys, ?_, vPut_len hl, vPut_rep (rv.mono s2) rys⟩) (.refl _)⟩
                  · rw [List.length_zip, ← lx, Nat.min_self, hl]; exact lt_size hlt
                  · rw [upd_same, put_zip k v ks ys lx]
                · exact h2.elim
            cases u with
            | frz d => simp only [Sl.mut] at h2; exact h2.elim
            | exn c => simp only [Sl.mut] at h2; exact h2.elim
            | own d =>
              obtain ⟨q, rfl, _, _, ho⟩ := hs
              cases d with
              | dK ks zs => exact fin ks zs q rfl rfl rfl ho
              | _ => simp only [Sl.mut, Sl.d] at h2; exact h2.elim
            | bor d =>
              obtain ⟨q, rfl, _, _, ho⟩ := hs
              cases d with
              | dK ks zs => exact fin ks zs q rfl rfl rfl ho
              | _ => simp only [Sl.mut, Sl.d] at h2; exact h2.elim⟩
end
end Dd

namespace Dd
open PySem PySem.Spec PyProof.Rows L2
/-! ### d[y1, ..] = e; y in d -/
/-- y in d: the answer -/
def gDIn : D → D → Option Bool
  | y, .dK ks ds => (keyD y).map fun k => (valD k ks ds).isSome
  | _, _ => none
def dinD (neg : Bool) (fy fd : DE) : DE := fun env => (fy env).bind fun p => (fd p.2).bind fun q => match gDIn p.1.d q.1.d with
  | some b => .ok (.frz (.bl (b ^^ neg)), q.2)
  | none => .no
/-- y in d, d in slot i, left as it is -/
def dinND (neg : Bool) (fy : DE) (i : Nat) : DE := fun env => (fy env).bind fun p => match p.2[i]? with
  | some (some s) => (match s.val with
    | some d => (match gDIn p.1.d d with
      | some b => .ok (.frz (.bl (b ^^ neg)), p.2)
      | none => .no)
    | none => .no)
  | _ => .no
section
variable {X : Cx} {C : Cd} {o e y : Expr} {fo fe fk : DE} {fs : List DE} {pos pos' tp : Pos} {es : List Expr} {k i : Nat}
theorem qs_dputT (ft : Fit X C) (hu : X.A.units + 1 < cLine) (ho : PE X o (tVar i)) (ha : PA X es (tDA C fs)) (he : PE X e (tD C fe)) (hl : fs.length ≤ sizeLine := by decide) (hs : swapsWith e (some (.Subscript o (.Tuple es k tp) pos')) pos.line X.env = pure false := by rfl) : PS X (.Assign [.Subscript o (.Tuple es k tp) pos'] e pos) (tDS C (dputTD i fe fs)) :=
  PS.weak (ps_dput hu ho (pe_tup (x1 := k) (pos := tp) ha) (qz he) hs) fun T σ H ⟨F, env, I, h⟩ => ⟨F, env, I, (FinS.bnd h).imp fun s e F1 H1 I1 s1 h1 v rv => by
    cases ei : e[i]? with
    | none => simp only [ei] at h1; exact h1.elim
    | some z =>
      cases z with
      | none => simp only [ei] at h1; exact h1.elim
      | some s0 =>
        simp only [ei] at h1
        obtain ⟨w, hv, _⟩ := I1.sl i s0 ei
        refine ⟨w, hv, F1, e, I1, ?_⟩
        cases ea : argsD fs e with
        | no => rw [ea] at h1; exact h1
        | er c fs z => rw [ea] at h1; exact ⟨h1.1, fun x F' H' I s k => h1.2 x σ F' H' I s k⟩
        | ok r =>
          rw [ea] at h1
          simp only [bindS_ok] at h1
          intro F2 H2 I2 s2 vs ry
          refine ⟨by rw [ry.len, argsD_len ea]; exact hl, fun kp np => ?_⟩
          have sF := I2.same (o := .tup vs) np
          have I3 := I2.alloc (o := .tup vs) np
          cases e1 : r.2[i]? with
          | none => simp only [e1] at h1; exact h1.elim
          | some z =>
            cases z with
            | none => simp only [e1] at h1; exact h1.elim
            | some u =>
              simp only [e1] at h1
              obtain ⟨v', hv', hs⟩ := I3.sl i u e1
              rw [hv] at hv'
              cases hv'
              have fin : ∀ ks zs p, w = .ref p → u.mut = true → u.d = .dT ks zs → Own C.K C.mg (upd F2 kp (.tup vs)) (upd H2 kp (.tup vs)) (.dT ks zs) p → ∃ a H4, w = .ref a ∧ DPut (upd H2 kp (.tup vs)) a (.ref kp) v H4 ∧ T.nx σ H4 := by
                intro ks zs p ew mu hd ho
                subst ew
                obtain ⟨ys, hy, hl, rys⟩ := ho
                cases hk : keysD r.1 with
                | none => simp only [mu, hd, hk] at h1; exact h1.elim
                | some k =>
                  simp only [mu, hd, hk] at h1
                  split at h1
                  · rename_i hlt
                    have lx : ks.length = ys.length := by rw [hl, rys.len]
                    refine ⟨p, _, rfl, .inr ⟨_, k, kp, hy, rfl, by rw [upd_same, keys_rep ry hk], ?_, rfl⟩, FinS.le (s2.trans sF) h1 σ _ _ (I3.change e1 mu hv ⟨vPut k v ks ys, ?_, vPut_len hl, vPut_rep ((rv.mono s2).mono sF) rys⟩) (.refl _)⟩
                    · rw [List.length_zip, ← lx, Nat.min_self, hl]; exact lt_size hlt
                    · rw [upd_same, put_zip k v ks ys lx]
                  · exact h1.elim
              cases u with
              | frz d => simp only [Sl.mut] at h1; exact h1.elim
              | exn c => simp only [Sl.mut] at h1; exact h1.elim
              | own d =>
                obtain ⟨q, rfl, _, _, ho⟩ := hs
                cases d with
                | dT ks zs => exact fin ks zs q rfl rfl rfl ho
                | _ => simp only [Sl.mut, Sl.d] at h1; exact h1.elim
              | bor d =>
                obtain ⟨q, rfl, _, _, ho⟩ := hs
                cases d with
                | dT ks zs => exact fin ks zs q rfl rfl rfl ho
                | _ => simp only [Sl.mut, Sl.d] at h1; exact h1.elim⟩
theorem din_get {K : PySem.W.Frag} {mg : Str → Option Value} {F H : Hp} {yd d : D} {b : Bool} {v x : V} (sm : Same F H) (ry : Rep K mg F yd v) (r : Rep K mg F d x) (h : gDIn yd d = some b) : ∃ a o, x = .ref a ∧ DGet H a v o ∧ o.isSome = b := by
  unfold gDIn at h
  split at h
  · rename_i ks ds
    cases ek : keyD yd with
    | none => rw [ek] at h; cases h
    | some k =>
      rw [ek] at h
      cases h
      unfold Rep at r
      obtain ⟨a, xs, rfl, ha, hl, hr⟩ := r
      refine ⟨a, valV (ks.zip xs) k, rfl, .inl ⟨_, k, rd_mono sm ha, key_rep ry ek, rfl⟩, ?_⟩
      rw [valV_zip]
      cases ev : valD k ks ds with
      | none => rw [val_none hr ev]; show _ = (valD k ks ds).isSome; rw [ev]; rfl
      | some d => obtain ⟨w, hw, _⟩ := val_rep hr ev; rw [hw]; show _ = (valD k ks ds).isSome; rw [ev]; rfl
  · cases h
theorem qe_din (ft : Fit X C) (hu : X.A.units + 1 < cLine) (hy : PE X y (tD C fk)) (ho : PE X o (tD C fo)) (h1 : behindInMarks .In o = false := by first | exact nobehind _ (by decide) (by decide) | rfl) : PE X (.Compare y [.In] [o] pos) (tD C (dinD false fk fo)) :=
  PE.weak (pe_cmp (pc_din hu (qz hy) (qz ho)) h1) fun σ H Q ⟨F, env, I, h⟩ => ⟨F, env, I, (Fin.bnd h).imp fun s e F1 H1 I1 s1 h1 y ry => ⟨F1, e, I1, (Fin.bnd h1).imp fun t e2 F2 H2 I2 s2 h2 x rx => by
    cases eg : gDIn s.d t.d with
    | none => simp only [eg] at h2; exact h2.elim
    | some b =>
      simp only [eg] at h2
      obtain ⟨a, o, e1, g, eb⟩ := din_get I2.fh (ry.mono s2) rx eg
      refine ⟨a, o, e1, g, ?_⟩
      rw [eb]
      have := h2 F2 H2 I2 (.refl _) (.bl b) (show Rep C.K C.mg F2 (.bl (b ^^ false)) (.bl b) by rw [Bool.xor_false]; exact rBl)
      exact this⟩⟩
theorem qe_dnin (ft : Fit X C) (hu : X.A.units + 1 < cLine) (hy : PE X y (tD C fk)) (ho : PE X o (tD C fo)) (h1 : behindInMarks .NotIn o = false := by first | exact nobehind _ (by decide) (by decide) | rfl) : PE X (.Compare y [.NotIn] [o] pos) (tD C (dinD true fk fo)) :=
  PE.weak (pe_cmp (pc_dnotin hu (qz hy) (qz ho)) h1) fun σ H Q ⟨F, env, I, h⟩ => ⟨F, env, I, (Fin.bnd h).imp fun s e F1 H1 I1 s1 h1 y ry => ⟨F1, e, I1, (Fin.bnd h1).imp fun t e2 F2 H2 I2 s2 h2 x rx => by
    cases eg : gDIn s.d t.d with
    | none => simp only [eg] at h2; exact h2.elim
    | some b =>
      simp only [eg] at h2
      obtain ⟨a, o, e1, g, eb⟩ := din_get I2.fh (ry.mono s2) rx eg
      refine ⟨a, o, e1, g, ?_⟩
      rw [eb]
      have := h2 F2 H2 I2 (.refl _) (.bl (!b)) (show Rep C.K C.mg F2 (.bl (b ^^ true)) (.bl (!b)) by rw [Bool.xor_true]; exact rBl)
      exact this⟩⟩
theorem qe_dinN (ft : Fit X C) (hu : X.A.units + 1 < cLine) (hy : PE X y (tD C fk)) (ho : PE X o (tVar i)) (h1 : behindInMarks .In o = false := by first | exact nobehind _ (by decide) (by decide) | rfl) : PE X (.Compare y [.In] [o] pos) (tD C (dinND false fk i)) :=
  PE.weak (pe_cmp (pc_din hu (qz hy) ho) h1) fun σ H Q ⟨F, env, I, h⟩ => ⟨F, env, I, (Fin.bnd h).imp fun s e F1 H1 I1 s1 h1 y ry => by
    cases e1 : e[i]? with
    | none => simp only [e1] at h1; exact h1.elim
    | some z =>
      cases z with
      | none => simp only [e1] at h1; exact h1.elim
      | some u =>
        simp only [e1] at h1
        cases ev : u.val with
        | none => simp only [ev] at h1; exact h1.elim
        | some d =>
          simp only [ev] at h1
          cases eg : gDIn s.d d with
          | none => simp only [eg] at h1; exact h1.elim
          | some b =>
            simp only [eg] at h1
            obtain ⟨v, F', hv, sF, sH, rd⟩ := I1.peek e1 ev
            have ed : u.d = d := by cases u <;> simp [Sl.val, Sl.d] at ev ⊢ <;> exact ev
            rw [ed] at rd
            obtain ⟨a, o, e2, g, eb⟩ := din_get sH (ry.mono sF) rd eg
            refine ⟨v, hv, a, o, e2, g, ?_⟩
            rw [eb]
            exact h1 F1 H1 I1 (.refl _) (.bl b) (show Rep C.K C.mg F1 (.bl (b ^^ false)) (.bl b) by rw [Bool.xor_false]; exact rBl)⟩
end
end Dd

namespace Dd
open PySem PySem.Spec PyProof.Rows L2
/-! ### {} to be filled -/
def newDKD : DE := fun env => .ok (.own (.dK [] []), env)
def newDTD : DE := fun env => .ok (.own (.dT [] []), env)
theorem In.newOwn {C : Cd} {F H : Hp} {σ : L2.St} {env : DEnv} (I : In C F H σ env) {p : Addr} {o : HO} {d : D} (n : H p = .none) (ho : Own C.K C.mg F (upd H p o) d p) : In C F (upd H p o) σ env ∧ Fresh C F (upd H p o) env σ d p := ⟨I.fresh n, I.none n, I.none0 n, ho, I.slotNe n⟩
theorem qe_newDK {X : Cx} {C : Cd} {pos : Pos} : PE X (.Dict [] [] pos) (tD C newDKD) := PE.weak pe_dnewK fun σ H Q ⟨F, env, I, h⟩ p np => by
  obtain ⟨I2, fr⟩ := I.newOwn (d := .dK [] []) np ⟨[], upd_same, rfl, repNil⟩
  exact Fin.here (F := F) h I2 |> fun k => k _ ⟨p, rfl, fr⟩
theorem qe_newDT {X : Cx} {C : Cd} {pos : Pos} : PE X (.Dict [] [] pos) (tD C newDTD) := PE.weak pe_dnewT fun σ H Q ⟨F, env, I, h⟩ p np => by
  obtain ⟨I2, fr⟩ := I.newOwn (d := .dT [] []) np ⟨[], upd_same, rfl, repNil⟩
  exact Fin.here (F := F) h I2 |> fun k => k _ ⟨p, rfl, fr⟩
section
variable {env : DEnv} {X : Str → DEnv → Prop} {Q : Sl × DEnv → Prop} {T : Out → Prop} {fo fi fe fk : DE} {fs : List DE}
theorem e_newDK : wE (newDKD env) Q X kq kq = Q (.own (.dK [] []), env) := rfl
theorem e_newDT : wE (newDTD env) Q X kq kq = Q (.own (.dT [] []), env) := rfl
theorem e_dget : wE (dgetD fo fi env) Q X kq kq = wE (fo env) (fun p => wE (fi p.2) (fun q => oQ (gDGet p.1.d q.1.d) (fun d => Q (.frz d, q.2)) kq) X kq kq) X kq kq := by
  unfold dgetD
  rw [x_bind]
  refine wR_cg fun p => ?_
  rw [x_bind]
  refine wR_cg fun q => ?_
  cases gDGet p.1.d q.1.d <;> rfl
theorem e_dgetT : wE (dgetTD fo fs env) Q X kq kq = wE (fo env) (fun p => wE (argsD fs p.2) (fun q => oQ (gDGetT p.1.d q.1) (fun d => Q (.frz d, q.2)) kq) X kq kq) X kq kq := by
  unfold dgetTD
  rw [x_bind]
  refine wR_cg fun p => ?_
  rw [x_bind]
  refine wR_cg fun q => ?_
  cases gDGetT p.1.d q.1 <;> rfl
theorem e_din {n : Bool} : wE (dinD n fi fo env) Q X kq kq = wE (fi env) (fun p => wE (fo p.2) (fun q => oQ (gDIn p.1.d q.1.d) (fun b => Q (.frz (.bl (b ^^ n)), q.2)) kq) X kq kq) X kq kq := by
  unfold dinD
  rw [x_bind]
  refine wR_cg fun p => ?_
  rw [x_bind]
  refine wR_cg fun q => ?_
  cases gDIn p.1.d q.1.d <;> rfl
end
end Dd

namespace Dd
open PySem PySem.Spec PyProof.Rows L2
/-! ### y in d as a test -/
theorem u1 {k : Nat} {A : Around} (r : Room k A) : A.units + 1 < cLine := by have := r.units; omega
section
variable {X : Cx} {C : Cd} {o y : Expr} {fo fk : DE} {pos : Pos} {i : Nat} {σ : L2.St} {H : Hp} {Q : VK}
theorem t_din : tD C (dinD false fk fo) σ H Q → tDIn (tDz C fk) (tDz C fo) σ H Q := fun ⟨F, env, I, h⟩ => ⟨F, env, I, (Fin.bnd h).imp fun s e F1 H1 I1 s1 h1 y ry => ⟨F1, e, I1, (Fin.bnd h1).imp fun t e2 F2 H2 I2 s2 h2 x rx => by
    cases eg : gDIn s.d t.d with
    | none => simp only [eg] at h2; exact h2.elim
    | some b =>
      simp only [eg] at h2
      obtain ⟨a, o, e1, g, eb⟩ := din_get I2.fh (ry.mono s2) rx eg
      refine ⟨a, o, e1, g, ?_⟩
      rw [eb]
      have := h2 F2 H2 I2 (.refl _) (.bl b) (show Rep C.K C.mg F2 (.bl (b ^^ false)) (.bl b) by rw [Bool.xor_false]; exact rBl)
      exact this⟩⟩
theorem t_dnin : tD C (dinD true fk fo) σ H Q → tDNotIn (tDz C fk) (tDz C fo) σ H Q := fun ⟨F, env, I, h⟩ => ⟨F, env, I, (Fin.bnd h).imp fun s e F1 H1 I1 s1 h1 y ry => ⟨F1, e, I1, (Fin.bnd h1).imp fun t e2 F2 H2 I2 s2 h2 x rx => by
    cases eg : gDIn s.d t.d with
    | none => simp only [eg] at h2; exact h2.elim
    | some b =>
      simp only [eg] at h2
      obtain ⟨a, o, e1, g, eb⟩ := din_get I2.fh (ry.mono s2) rx eg
      refine ⟨a, o, e1, g, ?_⟩
      rw [eb]
      have := h2 F2 H2 I2 (.refl _) (.bl (!b)) (show Rep C.K C.mg F2 (.bl (b ^^ true)) (.bl (!b)) by rw [Bool.xor_true]; exact rBl)
      exact this⟩⟩
theorem t_dinN : tD C (dinND false fk i) σ H Q → tDIn (tDz C fk) (tVar i) σ H Q := fun ⟨F, env, I, h⟩ => ⟨F, env, I, (Fin.bnd h).imp fun s e F1 H1 I1 s1 h1 y ry => by
    cases e1 : e[i]? with
    | none => simp only [e1] at h1; exact h1.elim
    | some z =>
      cases z with
      | none => simp only [e1] at h1; exact h1.elim
      | some u =>
        simp only [e1] at h1
        cases ev : u.val with
        | none => simp only [ev] at h1; exact h1.elim
        | some d =>
          simp only [ev] at h1
          cases eg : gDIn s.d d with
          | none => simp only [eg] at h1; exact h1.elim
          | some b =>
            simp only [eg] at h1
            obtain ⟨v, F', hv, sF, sH, rd⟩ := I1.peek e1 ev
            have ed : u.d = d := by cases u <;> simp [Sl.val, Sl.d] at ev ⊢ <;> exact ev
            rw [ed] at rd
            obtain ⟨a, o, e2, g, eb⟩ := din_get sH (ry.mono sF) rd eg
            refine ⟨v, hv, a, o, e2, g, ?_⟩
            rw [eb]
            exact h1 F1 H1 I1 (.refl _) (.bl b) (show Rep C.K C.mg F1 (.bl (b ^^ false)) (.bl b) by rw [Bool.xor_false]; exact rBl)⟩
theorem qt_din (ft : Fit X C) (hu : X.A.units + 1 < cLine) (hy : PE X y (tD C fk)) (ho : PE X o (tD C fo)) (h1 : behindInMarks .In o = false := by first | exact nobehind _ (by decide) (by decide) | rfl) : PT X (.Compare y [.In] [o] pos) (tDT C (boolT (dinD false fk fo))) := PT.weak (pt_cmp (pc_din hu (qz hy) (qz ho)) h1) fun σ H Q h => t_din (tz_t (t_bool h))
theorem qt_dnin (ft : Fit X C) (hu : X.A.units + 1 < cLine) (hy : PE X y (tD C fk)) (ho : PE X o (tD C fo)) (h1 : behindInMarks .NotIn o = false := by first | exact nobehind _ (by decide) (by decide) | rfl) : PT X (.Compare y [.NotIn] [o] pos) (tDT C (boolT (dinD true fk fo))) := PT.weak (pt_cmp (pc_dnotin hu (qz hy) (qz ho)) h1) fun σ H Q h => t_dnin (tz_t (t_bool h))
theorem qt_dinN (ft : Fit X C) (hu : X.A.units + 1 < cLine) (hy : PE X y (tD C fk)) (ho : PE X o (tVar i)) (h1 : behindInMarks .In o = false := by first | exact nobehind _ (by decide) (by decide) | rfl) : PT X (.Compare y [.In] [o] pos) (tDT C (boolT (dinND false fk i))) := PT.weak (pt_cmp (pc_din hu (qz hy) ho) h1) fun σ H Q h => t_dinN (tz_t (t_bool h))
end
end Dd

namespace Dd
open PySem PySem.Spec PyProof.Rows L2
/-! ### sep.join(texts) -/
def strsD : List D → Option (List Str)
  | [] => some []
  | .str x :: r => (strsD r).map (x :: ·)
  | _ => none
def strsL : D → Option (List Str)
  | .lst ds => strsD ds
  | .tup ds => strsD ds
  | _ => none
def gJoin (a : Str) (d : D) : Option Sl := (strsL d).bind fun ys => if (ys.map (·.length)).sum + ys.length * a.length ≤ 16777216 then some (.frz (.str (Txt.join a ys))) else none
def joinD (fo fa : DE) : DE := fun env => (fo env).bind fun p => match p.1.d with
  | .str a => (argsD [fa] p.2).bind fun q => (match q.1 with
    | [d] => (match gJoin a d with
      | some s => .ok (s, q.2)
      | none => .no)
    | _ => .no)
  | _ => .no
theorem strs_rep {K : PySem.W.Frag} {mg : Str → Option Value} {H : Hp} : ∀ {ds : List D} {xs : List V} {ys : List Str}, RepL K mg H ds xs → strsD ds = some ys → xs = ys.map V.str
  | [], xs, ys, r, h => by cases h; rw [r.nil]; rfl
  | d :: ds, xs, ys, r, h => by
    obtain ⟨x, t, rfl, h1, h2⟩ := r.cons
    cases d <;> first | (cases h; done) | skip
    rename_i z
    unfold strsD at h
    cases e : strsD ds with
    | none => rw [e] at h; cases h
    | some zs =>
      rw [e] at h
      cases h
      rw [h1.str, strs_rep h2 e]
      rfl
theorem qe_join {X : Cx} {C : Cd} {o e : Expr} {fo fa : DE} {apos cpos : Pos} (ft : Fit X C) (ho : PE X o (tD C fo)) (ha : PA X [e] (tDA C [fa]))
    (hbase : attributeBase o "join" X.env (eval o X.env) = eval o X.env := by rfl)
    (hfew : ((backTo cpos (starEach [e] X.env)).all (fun x => !x.1) && (backToKw cpos (keywordEach [] X.env)).all (fun x => x.1.isSome) && decide ([e].length + ([] : List Keyword).length + (if ([] : List Keyword).isEmpty then 0 else 1) < 30)) = true := by rfl)
    (hline : (apos.endLine == cpos.line) = true := by rfl) (hs : starEach [e] X.env = (false, eval e X.env) :: starEach [] X.env := by rfl) (hplain : (backTo cpos (starEach [] X.env)).any (·.1) = false := by rfl) :
    PE X (.Call (.Attribute o "join" apos) [e] [] cpos) (tD C (joinD fo fa)) := by
  have q := pe_bm (apos := apos) PySem.F.plainAttrs_str PySem.F.slot_str_join PySem.F.type_str_join mt_join (qz ho) ha hbase hfew hline hs hplain
  rw [ft.k] at q
  refine PE.weak q fun σ H Q ⟨F, env, I, h⟩ => ⟨F, env, I, (Fin.bnd h).imp fun s e F1 H1 I1 s1 h1 x rx => ?_⟩
  cases ed : s.d with
  | str a =>
    rw [ed] at rx
    simp only [ed] at h1
    refine ⟨by rw [rx.str]; trivial, F1, e, I1, (Fin.bnd h1).imp fun ds e2 F2 H2 I2 s2 h2 vs rv => ?_⟩
    match ds, rv, h2 with
    | [d], rv, h2 =>
      obtain ⟨v, rfl, rd⟩ := rep1 rv
      unfold gJoin at h2
      cases ey : strsL d with
      | none => simp only [ey, Option.bind_none] at h2; exact h2.elim
      | some ys =>
        simp only [ey, Option.bind_some] at h2
        split at h2
        · rename_i z hz
          split at hz
          · rename_i hle
            cases hz
            have fin := h2 F2 H2 I2 (.refl _) (.str (Txt.join a ys)) (show Rep C.K C.mg F2 _ _ from rStr)
            cases d <;> first | (cases ey; done) | skip
            · obtain ⟨p, xs, rfl, hp, hr⟩ := rd.lst
              exact ⟨a, p, ys, rx.str, rfl, .inl (.inl (.inl (by rw [← strs_rep hr ey]; exact I2.fh _ _ hp))), hle, fin⟩
            · obtain ⟨p, xs, rfl, hp, hr⟩ := rd.tup
              exact ⟨a, p, ys, rx.str, rfl, .inr (by rw [← strs_rep hr ey]; exact sameT I2.fh hp), hle, fin⟩
          · cases hz
        · exact h2.elim
    | [], _, h2 => exact h2.elim
    | _ :: _ :: _, _, h2 => exact h2.elim
  | _ => simp only [ed] at h1; exact h1.elim
section
variable {env : DEnv} {X : Str → DEnv → Prop} {Q : Sl × DEnv → Prop} {fo fa : DE}
def strQ (d : D) (K : Str → Prop) (_ : Kq K) : Prop := match d with
  | .str a => K a
  | _ => False
theorem strQ_s {a : Str} {K : Str → Prop} : strQ (.str a) K kq = K a := rfl
theorem e_join : wE (joinD fo fa env) Q X kq kq = wE (fo env) (fun p => strQ p.1.d (fun a => wE (argsD [fa] p.2) (fun q => l1Q q.1 (fun d => oQ (gJoin a d) (fun s => Q (s, q.2)) kq) kq) X kq kq) kq) X kq kq := by
  unfold joinD
  rw [x_bind]
  refine wR_cg fun p => ?_
  unfold strQ
  cases p.1.d with
  | str a =>
    simp only
    rw [x_bind]
    refine wR_cg fun q => ?_
    obtain ⟨l, e⟩ := q
    match l with
    | [] => rfl
    | [d] => show wR (match gJoin a d with | some s => R.ok (s, e) | none => R.no) Q X = oQ (gJoin a d) (fun s => Q (s, e)) kq; cases gJoin a d <;> rfl
    | _ :: _ :: _ => rfl
  | _ => rfl
end
end Dd

namespace Dd
open PySem PySem.Spec PyProof.Rows L2
/-! ### x.extend(ys), x.pop() -/
def MuOkS (C : Cd) (r : V → List V → Hp → VK → Prop) (g : List D → List D → Option (Sl × List D)) : Prop := ∀ (F H : Hp) (p : Addr) (xs vs : List V) (ds es ds' : List D) (s : Sl) (Q : VK), Same F H → H p = some (.lst xs) → RepL C.K C.mg F ds xs → RepL C.K C.mg F es vs → g ds es = some (s, ds') →
  (∀ xs' v, RepL C.K C.mg F ds' xs' → (match s with | .frz d => Rep C.K C.mg F d v | _ => False) → Q v (upd H p (.lst xs'))) → r (.ref p) vs H Q
def gExtend : List D → List D → Option (Sl × List D)
  | ds, [.lst es] => if ds.length + es.length ≤ 16000000 then some (.frz .non, ds ++ es) else none
  | _, _ => none
section
variable {X : Cx} {C : Cd} {o e : Expr} {es : List Expr} {fs : List DE} {apos cpos pos : Pos} {name : Str} {id : String}
theorem t_mutS {i : Nat} {r : V → List V → Hp → VK → Prop} {g : List D → List D → Option (Sl × List D)} (ok : MuOkS C r g) {σ : L2.St} {H : Hp} {Q : VK} : tD C (mutD g i fs) σ H Q → tBM C.K "list" r (tVar i) (tDA C fs) σ H Q := fun ⟨F, env, I, h⟩ => by
  unfold mutD at h
  cases ei : env[i]? with
  | none => rw [ei] at h; exact h.elim
  | some z =>
    cases z with
    | none => rw [ei] at h; exact h.elim
    | some s0 =>
      rw [ei] at h
      simp only at h
      by_cases hm : (s0.mut && isL s0.d) = true
      · rw [if_pos hm] at h
        rw [Bool.and_eq_true] at hm
        have own0 : ∃ p xs, σ[i]? = some (some (.ref p)) ∧ H p = some (.lst xs) := by
          obtain ⟨v, hv, hs⟩ := I.sl i s0 ei
          have : ∀ d p, Own C.K C.mg F H d p → isL d = true → ∃ xs, H p = some (.lst xs) := fun d p ho hl => by
            cases d <;> first | (cases hl; done) | (obtain ⟨xs, h1, _⟩ := ho; exact ⟨xs, h1⟩)
          cases s0 with
          | frz d => cases hm.1
          | exn c => cases hm.1
          | own d => obtain ⟨p, rfl, _, _, ho⟩ := hs; obtain ⟨xs, hx⟩ := this d p ho hm.2; exact ⟨p, xs, hv, hx⟩
          | bor d => obtain ⟨p, rfl, _, _, ho⟩ := hs; obtain ⟨xs, hx⟩ := this d p ho hm.2; exact ⟨p, xs, hv, hx⟩
        obtain ⟨p, xs, hv, hx⟩ := own0
        refine ⟨_, hv, .inl ⟨rfl, xs, .inl (.inl hx)⟩, F, env, I, (Fin.bnd h).imp fun ds e F1 H1 I1 s1 h1 vs rv => ?_⟩
        cases e1 : e[i]? with
        | none => simp only [e1] at h1; exact h1.elim
        | some z =>
          cases z with
          | none => simp only [e1] at h1; exact h1.elim
          | some s =>
            simp only [e1] at h1
            obtain ⟨v', hv', hs⟩ := I1.sl i s e1
            rw [hv] at hv'
            cases hv'
            have fin : ∀ zs, s.mut = true → s.d = .lst zs → Own C.K C.mg F1 H1 (.lst zs) p → r (.ref p) vs H1 Q := by
              intro zs ms hd ho
              simp only [ms, hd] at h1
              obtain ⟨ys, hy, ry⟩ := ho
              cases eg : g zs ds with
              | none => simp only [eg] at h1; exact h1.elim
              | some q =>
                obtain ⟨t, ds'⟩ := q
                simp only [eg] at h1
                refine ok F1 H1 p ys vs zs ds ds' t Q I1.fh hy ry rv eg fun xs' v rx hvv => ?_
                cases t with
                | frz d => exact h1 F1 _ (I1.change e1 ms hv ⟨xs', upd_same, rx⟩) (.refl _) v hvv
                | _ => exact hvv.elim
            cases s with
            | frz d => simp only [Sl.mut] at h1; exact h1.elim
            | exn c => simp only [Sl.mut] at h1; exact h1.elim
            | own d =>
              obtain ⟨q, e, _, _, ho⟩ := hs
              cases e
              cases d with
              | lst zs => exact fin zs rfl rfl ho
              | _ => simp only [Sl.mut, Sl.d] at h1; exact h1.elim
            | bor d =>
              obtain ⟨q, e, _, _, ho⟩ := hs
              cases e
              cases d with
              | lst zs => exact fin zs rfl rfl ho
              | _ => simp only [Sl.mut, Sl.d] at h1; exact h1.elim
      · rw [if_neg hm] at h; exact h.elim
theorem qe_mutS {i : Nat} {r : V → List V → Hp → VK → Prop} {g : List D → List D → Option (Sl × List D)} (ft : Fit X C) (pa : PlainAttrs "list") (slot : Slot "list" name id) (hty : typeOf (.builtin id) = pure (.type "method_descriptor")) (hm : MtR X id r) (ok : MuOkS C r g) (ho : PE X o (tVar i)) (ha : PA X (e :: es) (tDA C fs))
    (hbase : attributeBase o name X.env (eval o X.env) = eval o X.env := by rfl)
    (hfew : ((backTo cpos (starEach (e :: es) X.env)).all (fun x => !x.1) && (backToKw cpos (keywordEach [] X.env)).all (fun x => x.1.isSome)
      && decide ((e :: es).length + ([] : List Keyword).length + (if ([] : List Keyword).isEmpty then 0 else 1) < 30)) = true := by rfl)
    (hline : (apos.endLine == cpos.line) = true := by rfl) (hs : starEach (e :: es) X.env = (false, eval e X.env) :: starEach es X.env := by rfl) (hplain : (backTo cpos (starEach es X.env)).any (·.1) = false := by rfl) :
    PE X (.Call (.Attribute o name apos) (e :: es) [] cpos) (tD C (mutD g i fs)) := by
  have q := pe_bm (apos := apos) pa slot hty hm ho ha hbase hfew hline hs hplain
  rw [ft.k] at q
  exact PE.weak q fun _ _ _ h => t_mutS ok h
theorem ok_extend : MuOkS C rExtend gExtend := by
  intro F H p xs vs ds es ds' s Q sm hp r1 r2 hg k
  unfold gExtend at hg
  split at hg
  · split at hg
    · rename_i hl
      cases hg
      obtain ⟨x, rfl, rx⟩ := rep1 r2
      obtain ⟨b, zs, rfl, hb, rz⟩ := rx.lst
      exact ⟨p, b, xs, zs, rfl, rfl, hp, sm _ _ hb, by rw [r1.len, rz.len]; exact lim_le hl, k _ _ (r1.app rz) rNon⟩
    · cases hg
  · cases hg
/-- x.pop() -/
def popD (i : Nat) : DE := fun env => match env[i]? with
  | some (some s) => (match s.mut, s.d with
    | true, .lst ds => (match ds[ds.length - 1]? with
      | some d => .ok (.frz d, env.set i (some (s.put (.lst (ds.take (ds.length - 1))))))
      | none => .no)
    | _, _ => .no)
  | _ => .no
theorem t_pop {i : Nat} {σ : L2.St} {H : Hp} {Q : VK} : tD C (popD i) σ H Q → tBM0 C.K "list" rPop (tVar i) σ H Q := fun ⟨F, env, I, h⟩ => by
  unfold popD at h
  cases e1 : env[i]? with
  | none => simp only [e1] at h; exact h.elim
  | some z =>
    cases z with
    | none => simp only [e1] at h; exact h.elim
    | some s =>
      simp only [e1] at h
      obtain ⟨v, hv, hs⟩ := I.sl i s e1
      have fin : ∀ zs p, v = .ref p → s.mut = true → s.d = .lst zs → Own C.K C.mg F H (.lst zs) p → tBM0 C.K "list" rPop (tVar i) σ H Q := by
        intro zs p ev ms hd ho
        subst ev
        simp only [ms, hd] at h
        obtain ⟨ys, hy, ry⟩ := ho
        cases ed : zs[zs.length - 1]? with
        | none => simp only [ed] at h; exact h.elim
        | some d =>
          simp only [ed] at h
          obtain ⟨y, h1, h2⟩ := ry.get ed
          refine ⟨_, hv, .inl ⟨rfl, ys, .inl (.inl hy)⟩, p, ys, y, rfl, rfl, hy, by rw [ry.len]; exact h1, ?_⟩
          refine h F _ (I.change e1 ms hv ⟨ys.dropLast, upd_same, ?_⟩) (.refl _) y h2
          rw [List.dropLast_eq_take, ry.len]
          exact ry.take _
      cases s with
      | frz d => simp only [Sl.mut] at h; exact h.elim
      | exn c => simp only [Sl.mut] at h; exact h.elim
      | own d =>
        obtain ⟨q, rfl, _, _, ho⟩ := hs
        cases d with
        | lst zs => exact fin zs q rfl rfl rfl ho
        | _ => simp only [Sl.mut, Sl.d] at h; exact h.elim
      | bor d =>
        obtain ⟨q, rfl, _, _, ho⟩ := hs
        cases d with
        | lst zs => exact fin zs q rfl rfl rfl ho
        | _ => simp only [Sl.mut, Sl.d] at h; exact h.elim
theorem qe_pop {i : Nat} (ft : Fit X C) (ho : PE X o (tVar i)) (hbase : attributeBase o "pop" X.env (eval o X.env) = eval o X.env := by rfl) (hline : (apos.endLine == cpos.line) = true := by rfl) : PE X (.Call (.Attribute o "pop" apos) [] [] cpos) (tD C (popD i)) := by
  have q := pe_bm0 (apos := apos) (cpos := cpos) PySem.F.plainAttrs_list PySem.F.slot_list_pop PySem.F.type_list_pop mt_pop ho hbase hline
  rw [ft.k] at q
  exact PE.weak q fun _ _ _ h => t_pop h
end
end Dd

namespace Dd
open PySem PySem.Spec PyProof.Rows L2 RT
/-! ### reversed(x), x a list or a tuple -/
def iterRev (f : DE) : DI := fun env => (f env).bind fun p => match p.1.d with
  | .lst ds => .ok (ds.reverse, p.2)
  | .tup ds => .ok (ds.reverse, p.2)
  | _ => .no
section
variable {X : Cx} {C : Cd} {e tg : Expr} {f : DE} {p pos : Pos}
theorem it_revT {F1 : Hp} {a : Addr} {xs : List V} {ds : List D} (h : SqT C.K F1 a xs) (r : RepL C.K C.mg F1 ds xs) : ItOk C (ItvT C.K a xs.length) ds.reverse F1 := by
  intro F H σ env i s I
  have hx : SqT C.K H a xs := sameT (s.trans I.fh) h
  refine ⟨fun d hd => ?_, fun e => ?_⟩
  · obtain ⟨x, hx1, rx⟩ := r.rev.get hd
    have hi : i < xs.length := by
      have := (List.getElem?_eq_some_iff.mp hx1).1
      simpa using this
    rw [List.getElem?_reverse hi] at hx1
    refine ⟨⟨hi, xs, x, hx, hx1⟩, fun v H' yl => ?_⟩
    obtain ⟨e1, e2⟩ := yl
    subst e1
    have e2 := e2 xs hx
    rw [hx1] at e2
    cases e2
    exact ⟨F, .refl I.fh, rx.mono s⟩
  · rw [List.length_reverse, ← r.len] at e
    show xs.length ≤ i
    omega
theorem qi_revA (ft : Fit X C) (hg : Gl X "reversed") (hm : X.mg "reversed" = none) (he : PE X e (tD C f)) (hs : starEach [e] X.env = (false, eval e X.env) :: starEach [] X.env := by rfl) : PI X tg (.Call (.Name "reversed" p) [e] [] pos) (tDI C (iterRev f)) := by
  have q := pi_revA (tg := tg) (p := p) (pos := pos) hg hm (qz he) hs
  rw [ft.k] at q
  refine PI.weak q fun σ H RR ⟨F, env, I, h⟩ => ⟨F, env, I, (Fin.bnd h).imp fun s e F1 H1 I1 s1 h1 x rx => ?_⟩
  cases ed : s.d with
  | lst ds =>
    rw [ed] at rx
    simp only [ed] at h1
    obtain ⟨a, xs, rfl, h2, h3⟩ := rx.lst
    exact ⟨a, xs, rfl, .inl ⟨.inl (.inl (I1.fh _ _ h2)), h1 F1 H1 I1 (.refl _) _ (it_rev (.inl (.inl h2)) h3)⟩⟩
  | tup ds =>
    rw [ed] at rx
    simp only [ed] at h1
    obtain ⟨a, xs, rfl, h2, h3⟩ := rx.tup
    exact ⟨a, xs, rfl, .inr ⟨sameT I1.fh h2, h1 F1 H1 I1 (.refl _) _ (it_revT h2 h3)⟩⟩
  | _ => simp only [ed] at h1; exact h1.elim
end
end Dd

/-! ### max(xs, default=d) of a list of ints -/
namespace MxD
open PySem PySem.Spec PyProof.Rows L2
theorem args_d (a v : Value) : argsOk "max" ⟨[a], [(Str.ofString "default", v)]⟩ := by
  unfold argsOk
  kernel_rfl
abbrev boxO (vs : Array Value) (c : Nat) : Obj := { cls := .type "list", dict := none, data := .seq vs c, slots := #[] }
abbrev nextC (I S : Addr) (kw : List (Str × Value)) : Code := .builtin "max.loop" ⟨[.ref I, .none, .ref S], kw⟩
theorem nm : (toString "max" ++ toString ".loop" : String) = "max.loop" := by decide
section
variable {prog : Program} {w : World} {A : Around} {R : Result → Shared → Prop} {I S : Addr} {fp wr : List Addr} {n : Nat} {P : Nat → Value → Prop} {St : Nat → Heap → Prop} {bt : Nat → Nat → Bool} {kw : List (Str × Value)}
theorem go (W : Walks prog w A.in1 I fp wr n P St) (cm : CmpOf prog w A.in1 .Gt P bt) (fS : S ∉ fp) : ∀ (k j : Nat) (s : Shared) (vb : Value) (c : Nat), n = j + 1 + k → St (j + 1) s.heap → P (argBest bt j) vb →
    s.heap.get? S = some (boxO #[vb, vb] c) → (∀ v g tk, P (argBest bt (n - 1)) v → (∀ b o, b ∉ wr → b ≠ S → s.heap.get? b = some o → g.get? b = some o) → R (.ok (.ret v)) { s with heap := g, toks := tk }) →
    codeAny (model prog w) A (nextC I S kw) R s := by
  have wS : S ∉ wr := fun z => fS (W.sub _ z)
  intro k
  induction k with
  | zero =>
    intro j s vb c en st pb eS fin
    subst en
    refine codeAny_builtin F.entry_max_loop ?_
    rw [Around.under_plainId F.plain_max_loop _]
    show wpAny _ A.in1 (seqItems? (.ref S) >>= _) _ _ s; refine wpAny_bind (wpAny_seqItems eS rfl ?_)
    show wpAny _ A.in1 (tryCatch (pyNext (.ref I)) _ >>= _) _ _ s; refine wpAny_bind (wpAny_tryCatch (W.done s _ _ st fun g tk kp => ?_))
    have eS2 := kp S _ wS eS
    show wpAny _ A.in1 (updateSeq S (fun _ => #[]) >>= _) _ _ _; refine wpAny_bind (wpAny_updateSeq eS2 rfl (wpAny_bind (wpAny_letGo (wpAny_pure ?_))))
    exact fin vb _ tk pb fun b o h1 h2 e => (Heap.get?_update_other _ _ h2.symm).trans (kp b o h1 e)
  | succ k ih =>
    intro j s vb c en st pb eS fin
    refine codeAny_builtin F.entry_max_loop ?_
    rw [Around.under_plainId F.plain_max_loop _]
    show wpAny _ A.in1 (seqItems? (.ref S) >>= _) _ _ s; refine wpAny_bind (wpAny_seqItems eS rfl ?_)
    show wpAny _ A.in1 (tryCatch (pyNext (.ref I)) _ >>= _) _ _ s; refine wpAny_bind (wpAny_tryCatch (W.item (j + 1) s _ _ (by omega) st fun v g tk pv st2 kp => ?_))
    have eS2 := kp S _ wS eS
    show wpAny _ A.in1 (tryCatch (holding [v, v] (richCompare .Gt v vb >>= _)) _ >>= _) _ _ _; refine wpAny_bind (wpAny_tryCatch (wpAny_holding (wpAny_bind (cm (j + 1) (argBest bt j) v vb _ _ _ pv pb ?_))))
    refine wpAny_bind (wpAny_holding (wpAny_truthy_bool (wpAny_bind (wpAny_letGo (wpAny_pure ?_)))))
    cases hb : bt (j + 1) (argBest bt j) with
    | true =>
      have pb2 : P (argBest bt (j + 1)) v := by simp only [argBest, hb, if_true]; exact pv
      simp only [if_true]
      refine wpAny_bind (wpAny_updateSeq eS2 rfl (wpAny_bind (wpAny_letGo ?_)))
      rw [nm]
      refine wpAny_pure ⟨plainId_quiet F.plain_max_loop _, ih (j + 1) _ v _ (by omega) (W.frame _ _ _ st2 fun b hb2 o e => ?_) pb2 (Heap.get?_update_self _ eS2 rfl) fun v2 g2 tk2 p2 kp2 => ?_⟩
      · exact (Heap.get?_update_other _ _ (fun z : S = b => fS (z ▸ hb2))).trans e
      · exact fin v2 g2 tk2 p2 fun b o h1 h2 e => kp2 b o h1 h2 ((Heap.get?_update_other _ _ h2.symm).trans (kp b o h1 e))
    | false =>
      have pb2 : P (argBest bt (j + 1)) vb := by simp only [argBest, hb, Bool.false_eq_true, if_false]; exact pb
      simp only [Bool.false_eq_true, if_false]
      refine wpAny_bind (wpAny_letGo ?_)
      rw [nm]
      exact wpAny_pure ⟨plainId_quiet F.plain_max_loop _, ih (j + 1) _ vb c (by omega) st2 pb2 eS2 fun v2 g2 tk2 p2 kp2 => fin v2 g2 tk2 p2 fun b o h1 h2 e => kp2 b o h1 h2 (kp b o h1 e)⟩
theorem first (W : Walks prog w A.in1 I fp wr n P St) (cm : CmpOf prog w A.in1 .Gt P bt) (fS : S ∉ fp) {d : Value} {nd : Str} {s : Shared} {c : Nat} (st : St 0 s.heap) (eS : s.heap.get? S = some (boxO #[] c))
    (fin : ∀ v g tk, 0 < n → P (argBest bt (n - 1)) v → (∀ b o, b ∉ wr → b ≠ S → s.heap.get? b = some o → g.get? b = some o) → R (.ok (.ret v)) { s with heap := g, toks := tk })
    (fin0 : n = 0 → ∀ g tk, (∀ b o, b ∉ wr → b ≠ S → s.heap.get? b = some o → g.get? b = some o) → R (.ok (.ret d)) { s with heap := g, toks := tk }) : codeAny (model prog w) A (nextC I S [(nd, d)]) R s := by
  have wS : S ∉ wr := fun z => fS (W.sub _ z)
  refine codeAny_builtin F.entry_max_loop ?_
  rw [Around.under_plainId F.plain_max_loop _]
  show wpAny _ A.in1 (seqItems? (.ref S) >>= _) _ _ s; refine wpAny_bind (wpAny_seqItems eS rfl ?_)
  show wpAny _ A.in1 (tryCatch (pyNext (.ref I)) _ >>= _) _ _ s
  by_cases hn : n = 0
  · subst hn
    refine wpAny_bind (wpAny_tryCatch (W.done s _ _ st fun g tk kp => ?_))
    show wpAny _ A.in1 (rule _ >>= _) _ _ _
    refine wpAny_bind (wpAny_rule (wpAny_pure ?_))
    exact fin0 rfl g tk fun b o h1 _ e => kp b o h1 e
  · refine wpAny_bind (wpAny_tryCatch (W.item 0 s _ _ (by omega) st fun v g tk pv st2 kp => ?_))
    have eS2 := kp S _ wS eS
    show wpAny _ A.in1 (updateSeq S (fun _ => #[v, v]) >>= _) _ _ _; refine wpAny_bind (wpAny_updateSeq eS2 rfl ?_)
    rw [nm]
    refine wpAny_pure ⟨plainId_quiet F.plain_max_loop _, go W cm fS (n - 1) 0 _ v _ (by omega) (W.frame _ _ _ st2 fun b hb2 o e => ?_) pv (Heap.get?_update_self _ eS2 rfl) fun v2 g2 tk2 p2 kp2 => ?_⟩
    · exact (Heap.get?_update_other _ _ (fun z : S = b => fS (z ▸ hb2))).trans e
    · exact fin v2 g2 tk2 (by omega) p2 fun b o h1 h2 e => kp2 b o h1 h2 ((Heap.get?_update_other _ _ h2.symm).trans (kp b o h1 e))
end
section
variable {prog : Program} {w : World} {A : Around} {E : Value → Shared → Prop} {s : Shared} {l : Addr} {xs : Array (Int × Tok)} {d : Value}
theorem of_ints {Q : Value → Shared → Prop} (hh : A.handled = none) (hl : s.heap.IsList l (intItems xs))
    (h : ∀ v g tk, 0 < xs.size → (intItems xs)[argBest (fun i j => decide (numAt xs i > numAt xs j)) (xs.size - 1)]? = some v → (∀ b o, s.heap.get? b = some o → g.get? b = some o) → Q v { s with heap := g, toks := tk })
    (h0 : xs.size = 0 → ∀ g tk, (∀ b o, s.heap.get? b = some o → g.get? b = some o) → Q d { s with heap := g, toks := tk }) :
    wpAny (model prog w) A (call (.builtin "max") [.ref l] [(Str.ofString "default", d)]) Q E s := by
  have sz : (intItems xs).size = xs.size := by simp [intItems]
  refine kmk_tree F.kind_max F.plain_max F.entry_max (args_d _ _) ?_
  show wpAny _ A.in1 (Builtin.Builtins.bindParams "max" ["key", "default"] 0 ⟨[], [(Str.ofString "default", d)]⟩ >>= _) _ _ s
  refine wpAny_bind (wpAny_of_eq (show Builtin.Builtins.bindParams "max" ["key", "default"] 0 ⟨[], [(Str.ofString "default", d)]⟩ = pure [none, some d] from by first | rfl | kernel_rfl) ?_)
  refine wpAny_bind (wpAny_pure (wpAny_bind (iter_intList hl fun s2 e2 st fb ne => ?_)))
  refine wpAny_bind (wpAny_newObj_type ?_)
  have fS : s2.heap.objs.size ∉ [s.heap.objs.size, l] := fun z => Nat.lt_irrefl _ (fb _ z)
  rw [nm]
  have W := Walks.list (prog := prog) (w := w) (A := A.in1) hh s.heap.objs.size l ne (intItems xs)
  have kept : ∀ g : Heap, (∀ b o, b ∉ [s.heap.objs.size] → b ≠ s2.heap.objs.size → (s2.heap.push (boxO #[] 0)).get? b = some o → g.get? b = some o) → ∀ b o, s.heap.get? b = some o → g.get? b = some o := by
    intro g kp b o e
    have lt := Heap.lt_size e
    have e3 : s2.heap.get? b = some o := by
      rw [e2]
      exact Heap.get?_push_of_some _ e
    refine kp b o (fun z => ?_) (Nat.ne_of_lt (Heap.lt_size e3)) (Heap.get?_push_of_some _ e3)
    rw [List.mem_singleton.mp z] at lt
    exact Nat.lt_irrefl _ lt
  subst e2
  refine wpAny_pure ⟨plainId_quiet F.plain_max_loop _, first W (CmpOf.ints_gt (numAt xs) (fun _ _ => intItems_at)) fS (W.frame _ _ _ st fun b _ o e => Heap.get?_push_of_some _ e) (Heap.get?_push_size _ rfl) (fun v g tk hn hP kp => ?_) (fun hn g tk kp => ?_)⟩
  · rw [sz] at hn hP
    exact h v g tk hn hP (kept g kp)
  · rw [sz] at hn
    exact h0 hn g tk (kept g kp)
end
section
variable {X : Cx}
def rMaxD (K : PySem.W.Frag) : List V → List V → Hp → VK → Prop := fun vs zs H Q => ∃ (a : Addr) (ns : List Int) (d : Int), vs = [V.ref a] ∧ zs = [V.int d] ∧ SqL K H a (ns.map V.int) ∧ (ns = [] → Q (.int d) H) ∧ ∀ m, m ∈ ns → (∀ y, y ∈ ns → y ≤ m) → Q (.int m) H
theorem cr_maxD (hc : X.calm = true) : CallRK X (.builtin "max") [Str.ofString "default"] (rMaxD X.K) := by
  intro pins s σ H vs zs us ws Q I r rz h
  obtain ⟨a, ns, d, rfl, rfl, hs, q0, q⟩ := h
  obtain ⟨its, rv, hl, _⟩ := I.list hs
  obtain ⟨w1, rfl, t1, rfl⟩ := vals1 rz
  rw [Vals.ref1 r]
  have hi := rv.ints
  obtain ⟨xs, e⟩ := hi.allInts.items
  have hn : numsOf (intItems xs).toList = ns := by rw [← e]; exact hi.numsOf
  rw [nums_intItems] at hn
  subst hn
  have hl2 := hl.isList
  rw [e] at hl2
  refine of_ints (I.ok.hd hc) hl2 (fun v g tk hp hv kp => ?_) (fun hz g tk kp => ?_)
  · obtain ⟨t, rfl⟩ := intItems_at hv
    obtain ⟨h1, h2⟩ := argBest_gt (numAt xs) (xs.size - 1)
    refine ⟨.int _, H, I.kept kp, ⟨_, rfl⟩, q _ ?_ fun y hy => ?_⟩
    · rw [numAt_eq]
      exact PySem.getD_mem (by rw [List.length_map, Array.length_toList]; omega)
    · obtain ⟨j, hj, rfl⟩ := mem_getD hy
      rw [List.length_map, Array.length_toList] at hj
      rw [← numAt_eq]
      exact h2 j (by omega)
  · refine ⟨.int d, H, I.kept kp, ⟨_, rfl⟩, q0 ?_⟩
    rw [List.map_eq_nil_iff]
    exact List.eq_nil_of_length_eq_zero (by rw [Array.length_toList]; exact hz)
end
end MxD

namespace Dd
open PySem PySem.Spec PyProof.Rows L2 MxD
/-! ### max(ints, default=d) -/
def gMaxD : D → D → Option Sl
  | .lst ds, .int k => (intsOf ds).map fun ns => .frz (.int (if ns = [] then k else maxL ns))
  | _, _ => none
def maxDD (fa fd : DE) : DE := fun env => (argsD [fa] env).bind fun p => (argsD [fd] p.2).bind fun q => match p.1, q.1 with
  | [a], [z] => (match gMaxD a z with
    | some s => .ok (s, q.2)
    | none => .no)
  | _, _ => .no
section
variable {X : Cx} {C : Cd} {e : Expr} {kws : List Keyword} {fa fd : DE} {p pos : Pos}
theorem qe_maxD (ft : Fit X C) (hc : X.calm = true) (hg : Gl X "max") (hm : X.mg "max" = none) (ha : PA X [e] (tDA C [fa])) (hk : PK X kws (tDA C [fd]))
    (he : backTo pos (starEach [e] X.env) = (false, eval e X.env) :: backTo pos (starEach [] X.env) := by rfl) (hpl : (backTo pos (starEach [e] X.env)).any (·.1) = false := by rfl)
    (hall : (backToKw pos (keywordEach kws X.env)).all (·.1.isSome) = true := by rfl) (hnone : (backToKw pos (keywordEach kws X.env)).any (·.1.isNone) = false := by rfl) (hks : (backToKw pos (keywordEach kws X.env)).filterMap (·.1) = [Str.ofString "default"] := by rfl) :
    PE X (.Call (.Name "max" p) [e] kws pos) (tD C (maxDD fa fd)) := by
  have q := pe_callBK (x := "max") (p := p) (pos := pos) (cr_maxD hc) hg hm (by decide +kernel) ha hk (by decide) (by decide) he hpl hall hnone hks
  rw [ft.k] at q
  refine PE.weak q fun σ H Q ⟨F, env, I, h⟩ => ⟨F, env, I, (Fin.bnd h).imp fun ds e F1 H1 I1 s1 h1 vs rv => ⟨F1, e, I1, (Fin.bnd h1).imp fun zs e2 F2 H2 I2 s2 h2 ws rw' => ?_⟩⟩
  match ds, zs, rv, rw', h2 with
  | [a], [z], rv, rw', h2 =>
    cases eg : gMaxD a z with
    | none => simp only [eg] at h2; exact h2.elim
    | some s =>
      simp only [eg] at h2
      obtain ⟨x, rfl, rx⟩ := rep1 rv
      obtain ⟨y, rfl, ry⟩ := rep1 rw'
      unfold gMaxD at eg
      split at eg
      · rename_i ds k
        cases ei : intsOf ds with
        | none => rw [ei] at eg; cases eg
        | some ns =>
          rw [ei] at eg
          cases eg
          obtain ⟨l, xs, rfl, hl, hr⟩ := rx.lst
          have ex := ints_of hr ei
          refine ⟨l, ns, k, rfl, by rw [ry.int], .inl (.inl (by rw [← ex]; exact I2.fh _ _ (s2 _ _ hl))), fun e0 => ?_, fun m h3 h4 => ?_⟩
          · exact h2 F2 H2 I2 (.refl _) _ (show Rep C.K C.mg F2 (.int (if ns = [] then k else maxL ns)) (.int k) by rw [if_pos e0]; exact rInt)
          · have hne : ns ≠ [] := fun z => by rw [z] at h3; cases h3
            exact h2 F2 H2 I2 (.refl _) _ (show Rep C.K C.mg F2 (.int (if ns = [] then k else maxL ns)) (.int m) by rw [if_neg hne, maxL_eq h3 h4]; exact rInt)
      · cases eg
  | [], _, _, _, h2 => exact h2.elim
  | _ :: _ :: _, _, _, _, h2 => exact h2.elim
  | [_], [], _, _, h2 => exact h2.elim
  | [_], _ :: _ :: _, _, _, h2 => exact h2.elim
end
end Dd

namespace Dd
open PySem PySem.Spec PyProof.Rows L2
/-! ### the new words' equations -/
section
variable {tab : Str → Option Bool} {tabs : List (Str → Option Bool)} {d : D}
theorem isO_o {c : Str} {ks : List Str} {ds : List D} : isO tab (.obj c ks ds) = tab c := rfl
theorem isO_n : isO tab .non = some false := rfl
theorem isO_b {b : Bool} : isO tab (.bl b) = some false := rfl
theorem isO_i {i : Int} : isO tab (.int i) = some false := rfl
theorem isO_s {s : Str} : isO tab (.str s) = some false := rfl
theorem isO_l {ds : List D} : isO tab (.lst ds) = some false := rfl
theorem isO_t {ds : List D} : isO tab (.tup ds) = some false := rfl
theorem isO_k {ks : List Key} {ds : List D} : isO tab (.dK ks ds) = some false := rfl
theorem isOA_n : isOA d [] = some false := rfl
theorem isOA_c : isOA d (tab :: tabs) = (isO tab d).bind fun b => if b = true then some true else isOA d tabs := by
  rw [isOA]
  cases isO tab d with
  | none => rfl
  | some b => cases b <;> rfl
theorem key_i {i : Int} : keyD (.int i) = some (.inl i) := rfl
theorem key_s {s : Str} : keyD (.str s) = some (.inr s) := rfl
theorem keys_n : keysD [] = some [] := rfl
theorem keys_c {ds : List D} : keysD (d :: ds) = (keyD d).bind fun k => (keysD ds).map (k :: ·) := rfl
theorem dget_K {ks : List Key} {ds : List D} : gDGet (.dK ks ds) d = (keyD d).bind fun k => valD k ks ds := rfl
theorem dget_T {ks : List (List Key)} {ds ys : List D} : gDGetT (.dT ks ds) ys = (keysD ys).bind fun k => valD k ks ds := rfl
theorem din_K {ks : List Key} {ds : List D} : gDIn d (.dK ks ds) = (keyD d).map fun k => (valD k ks ds).isSome := rfl
theorem val_n {κ α : Type} [DecidableEq κ] {k : κ} {ds : List α} : valD k [] ds = none := rfl
theorem val_c {κ α : Type} [DecidableEq κ] {k g : κ} {r : List κ} {e : α} {ds : List α} : valD k (g :: r) (e :: ds) = if g = k then some e else valD k r ds := rfl
theorem strs_n : strsD [] = some [] := rfl
theorem strs_c {x : Str} {ds : List D} : strsD (.str x :: ds) = (strsD ds).map (x :: ·) := rfl
theorem maxD_l {ds : List D} {k : Int} : gMaxD (.lst ds) (.int k) = (intsOf ds).map fun ns => .frz (.int (if ns = [] then k else maxL ns)) := rfl
end
section
variable {env : DEnv} {X : Str → DEnv → Prop} {Q : Sl × DEnv → Prop} {T : Out → Prop} {fa fd fy fe fk : DE} {fs : List DE}
theorem e_maxD : wE (maxDD fa fd env) Q X kq kq = wE (argsD [fa] env) (fun p => wE (argsD [fd] p.2) (fun q => l1Q p.1 (fun a => l1Q q.1 (fun z => oQ (gMaxD a z) (fun s => Q (s, q.2)) kq) kq) kq) X kq kq) X kq kq := by
  unfold maxDD
  rw [x_bind]
  refine wR_cg fun p => ?_
  rw [x_bind]
  refine wR_cg fun q => ?_
  obtain ⟨l, e⟩ := p
  obtain ⟨m, e2⟩ := q
  match l, m with
  | [], _ => rfl
  | _ :: _ :: _, _ => rfl
  | [a], [] => rfl
  | [a], _ :: _ :: _ => rfl
  | [a], [z] =>
    show wR (match gMaxD a z with | some s => R.ok (s, e2) | none => R.no) Q X = oQ (gMaxD a z) (fun s => Q (s, e2)) kq
    cases gMaxD a z <;> rfl
def ls2Q (d : D) (K : List D → Prop) (_ : Kq K) : Prop := match d with
  | .lst ds => K ds
  | .tup ds => K ds
  | _ => False
theorem ls2_l {ds : List D} {K : List D → Prop} : ls2Q (.lst ds) K kq = K ds := rfl
theorem ls2_t {ds : List D} {K : List D → Prop} : ls2Q (.tup ds) K kq = K ds := rfl
theorem e_itRev {f : DE} {Q : List D × DEnv → Prop} : wE (iterRev f env) Q X kq kq = wE (f env) (fun p => ls2Q p.1.d (fun ds => Q (ds.reverse, p.2)) kq) X kq kq := by
  unfold iterRev
  rw [x_bind]
  refine wR_cg fun p => ?_
  cases p.1.d <;> rfl
end
end Dd

namespace Dd
open PySem PySem.Spec PyProof.Rows L2
/-! ### for .. in d.values(): the dict is locked while it is walked -/
structure Lk (d : Addr) (kvs : List (Key × V)) (G G' : Hp) : Prop where
  ne : ∀ b, b ≠ d → G' b = G b
  l : Rd G d (.dK kvs)
  r : Rd G' d (.dK kvs)
section
variable {K : PySem.W.Frag} {mg : Str → Option Value} {d : Addr} {kvs : List (Key × V)} {G G' : Hp}
theorem Lk.off (L : Lk d kvs G G') {a : Addr} {o : HO} (h : G a = some o) (n1 : o ≠ .dK kvs) (n2 : ∀ z, o ≠ .frz z (.dK kvs)) : G' a = some o := by
  have : a ≠ d := fun z => by
    subst z
    rcases L.l with e | ⟨x, e⟩
    · rw [h] at e; exact n1 (Option.some.inj e)
    · rw [h] at e; exact n2 _ (Option.some.inj e)
  rw [L.ne a this]; exact h
theorem Lk.tup (L : Lk d kvs G G') {a : Addr} {xs : List V} (h : SqT K G a xs) : SqT K G' a xs := by
  rcases h with (h | ⟨o, h⟩) | h
  · exact .inl (.inl (L.off h (fun z => nomatch z) (fun _ z => nomatch z)))
  · exact .inl (.inr ⟨o, L.off h (fun z => nomatch z) (fun _ z => nomatch z)⟩)
  · exact .inr h
theorem Lk.seq (L : Lk d kvs G G') {a : Addr} {xs : List V} (h : SqL K G a xs) : SqL K G' a xs := by
  rcases h with (h | ⟨o, h⟩) | h
  · exact .inl (.inl (L.off h (fun z => nomatch z) (fun _ z => nomatch z)))
  · exact .inl (.inr ⟨o, L.off h (fun z => nomatch z) (fun _ z => nomatch z)⟩)
  · exact .inr h
theorem Lk.dk (L : Lk d kvs G G') {a : Addr} {ys : List (Key × V)} (h : Rd G a (.dK ys)) : Rd G' a (.dK ys) := by
  by_cases e : a = d
  · subst e
    have : ys = kvs := by
      rcases h with h | ⟨o, h⟩ <;> rcases L.l with q | ⟨p, q⟩ <;> (rw [h] at q; cases q; try rfl)
    rw [this]; exact L.r
  · rcases h with h | ⟨o, h⟩
    · exact .inl (by rw [L.ne a e]; exact h)
    · exact .inr ⟨o, by rw [L.ne a e]; exact h⟩
mutual
theorem Rep.lk (L : Lk d kvs G G') : ∀ {x : D} {v : V}, Rep K mg G x v → Rep K mg G' x v
  | .non, v, h => by unfold Rep at h ⊢; exact h
  | .bl b, v, h => by unfold Rep at h ⊢; exact h
  | .int b, v, h => by unfold Rep at h ⊢; exact h
  | .str b, v, h => by unfold Rep at h ⊢; exact h
  | .ty b, v, h => by unfold Rep at h ⊢; exact h
  | .cls b, v, h => by unfold Rep at h ⊢; exact h
  | .lst ds, v, h => by
    unfold Rep at h ⊢
    obtain ⟨a, xs, e, h1, h2⟩ := h
    exact ⟨a, xs, e, L.off h1 (fun z => nomatch z) (fun _ z => nomatch z), RepL.lk L h2⟩
  | .tup ds, v, h => by
    unfold Rep at h ⊢
    obtain ⟨a, xs, e, h1, h2⟩ := h
    exact ⟨a, xs, e, L.tup h1, RepL.lk L h2⟩
  | .scr ns, v, h => by
    unfold Rep at h ⊢
    obtain ⟨a, e, h1⟩ := h
    exact ⟨a, e, L.seq h1⟩
  | .dK ks ds, v, h => by
    unfold Rep at h ⊢
    obtain ⟨a, xs, e, h1, h0, h2⟩ := h
    exact ⟨a, xs, e, L.dk h1, h0, RepL.lk L h2⟩
  | .dT ks ds, v, h => by
    unfold Rep at h ⊢
    obtain ⟨a, xs, e, h1, h0, h2⟩ := h
    exact ⟨a, xs, e, L.off h1 (fun z => nomatch z) (fun _ z => nomatch z), h0, RepL.lk L h2⟩
  | .obj c ks ds, v, h => by
    unfold Rep at h ⊢
    obtain ⟨a, dx, xs, e, h1, h0, h2⟩ := h
    exact ⟨a, dx, xs, e, L.off h1 (fun z => nomatch z) (fun _ z => nomatch z), h0, RepL.lk L h2⟩
theorem RepL.lk (L : Lk d kvs G G') : ∀ {ds : List D} {xs : List V}, RepL K mg G ds xs → RepL K mg G' ds xs
  | [], xs, h => by unfold RepL at h ⊢; exact h
  | x :: ds, xs, h => by
    unfold RepL at h ⊢
    obtain ⟨y, r, e, h1, h2⟩ := h
    exact ⟨y, r, e, Rep.lk L h1, RepL.lk L h2⟩
end
theorem Own.lk {H H' : Hp} {x : D} {p : Addr} (L : Lk d kvs G G') (h : Own K mg G H x p) (sh : ∀ o, H p = .some o → H' p = .some o) : Own K mg G' H' x p := by
  cases x <;> first
    | exact h.elim
    | (obtain ⟨xs, h1, h2⟩ := h; exact ⟨xs, sh _ h1, h2.lk L⟩)
    | (obtain ⟨xs, h1, h0, h2⟩ := h; exact ⟨xs, sh _ h1, h0, h2.lk L⟩)
    | (obtain ⟨dx, xs, h1, h0, h2⟩ := h; exact ⟨dx, xs, sh _ h1, h0, h2.lk L⟩)
end
def lkH (d : Addr) (u : HO) (G : Hp) : Hp := fun b => if b = d then (match G d with
  | some _ => some u
  | none => none) else G b
theorem lkH_ne {d b : Addr} {u : HO} {G : Hp} (h : b ≠ d) : lkH d u G b = G b := if_neg h
theorem lkH_some {d : Addr} {u o : HO} {G : Hp} (h : lkH d u G d = some o) : o = u ∧ ∃ z, G d = some z := by
  unfold lkH at h
  rw [if_pos rfl] at h
  cases e : G d with
  | none => rw [e] at h; cases h
  | some z => rw [e] at h; cases h; exact ⟨rfl, z, rfl⟩
theorem lkH_of {d : Addr} {u z : HO} {G : Hp} (h : G d = some z) : lkH d u G d = some u := by
  unfold lkH
  rw [if_pos rfl, h]
theorem lkH_none {d : Addr} {u : HO} {G : Hp} (h : G d = none) : lkH d u G d = none := by
  unfold lkH
  rw [if_pos rfl, h]
def lkC (C : Cd) (d : Addr) (u : HO) : Cd := ⟨C.K, C.mg, lkH d u C.F0, lkH d u C.H0, C.B, W0, C.ex, C.exc, false⟩
theorem lkC_gnd {C : Cd} {d : Addr} {u : HO} : Gnd C (lkC C d u) := ⟨rfl, rfl, rfl⟩
section
variable {C : Cd} {F H F1 H1 : Hp} {σ σ1 : L2.St} {env e : DEnv} {d : Addr} {kvs : List (Key × V)} {od : Obj}
theorem In.lock (I : In C F H σ env) (hd : F d = some (.dK kvs)) : In (lkC C d (.frz od (.dK kvs))) (upd F d (.frz od (.dK kvs))) (upd H d (.frz od (.dK kvs))) σ env := by
  have L : Lk d kvs F (upd F d (.frz od (.dK kvs))) := ⟨fun b hb => upd_ne hb, .inl hd, .inr ⟨od, upd_same⟩⟩
  refine ⟨fun a o h => ?_, fun a o h => ?_, fun a o h hb => ?_, fun a o h => ?_, I.len, fun i s h => ?_, I.ds, fun p hp => ?_⟩
  · by_cases e : a = d
    · subst e; obtain ⟨rfl, _⟩ := lkH_some h; exact upd_same
    · rw [upd_ne e]; exact I.f0 _ _ ((lkH_ne e).symm.trans h)
  · by_cases e : a = d
    · subst e; rw [upd_same] at h ⊢; exact h
    · rw [upd_ne e] at h ⊢; exact I.fh _ _ h
  · by_cases e : a = d
    · subst e; obtain ⟨rfl, _⟩ := lkH_some h; exact upd_same
    · rw [upd_ne e]; exact I.fr _ _ ((lkH_ne e).symm.trans h) hb
  · by_cases e : a = d
    · subst e
      rw [upd_same] at h
      cases h
      exact (I.nf _ _ hd).imp (fun h => lkH_of h) fun h => lkH_none h
    · rw [upd_ne e] at h
      exact (I.nf _ _ h).imp (fun h => (lkH_ne e).trans h) fun h => (lkH_ne e).trans h
  · obtain ⟨v, hv, hs⟩ := I.sl i s h
    refine ⟨v, hv, ?_⟩
    cases s with
    | frz x => exact Rep.lk L hs
    | exn c => exact hs
    | own x =>
      obtain ⟨p, e, h1, h2, h3⟩ := hs
      have ne : p ≠ d := fun z => by rw [z, hd] at h1; cases h1
      exact ⟨p, e, by rw [upd_ne ne]; exact h1, (lkH_ne ne).trans h2, h3.lk L fun o ho => by rw [upd_ne ne]; exact ho⟩
    | bor x =>
      obtain ⟨p, e, h1, h2, h3⟩ := hs
      have ne : p ≠ d := fun z => by rw [z, hd] at h1; cases h1
      exact ⟨p, e, by rw [upd_ne ne]; exact h1, h2, h3.lk L fun o ho => by rw [upd_ne ne]; exact ho⟩
  · by_cases e : p = d
    · rw [e, upd_same]; exact fun z => nomatch z
    · rw [upd_ne e]; exact I.bs p hp
theorem In.unlock (I : In C F H σ env) (hd : F d = some (.dK kvs)) (J : In (lkC C d (.frz od (.dK kvs))) F1 H1 σ1 e) (s : Same (upd F d (.frz od (.dK kvs))) F1) :
    H1 d = some (.frz od (.dK kvs)) ∧ In C (upd F1 d (.dK kvs)) (upd H1 d (.dK kvs)) σ1 e ∧ Same F (upd F1 d (.dK kvs)) ∧ Lk d kvs F1 (upd F1 d (.dK kvs)) := by
  have f1 : F1 d = some (.frz od (.dK kvs)) := s _ _ upd_same
  have h1 : H1 d = some (.frz od (.dK kvs)) := J.fh _ _ f1
  have L : Lk d kvs F1 (upd F1 d (.dK kvs)) := ⟨fun b hb => upd_ne hb, .inr ⟨od, f1⟩, .inl upd_same⟩
  refine ⟨h1, ⟨fun a o h => ?_, fun a o h => ?_, fun a o h hb => ?_, fun a o h => ?_, J.len, fun i s h => ?_, J.ds, fun p hp => ?_⟩, fun a o h => ?_, L⟩
  · by_cases e : a = d
    · subst e; rw [upd_same, ← hd]; exact I.f0 _ _ h
    · rw [upd_ne e]; exact J.f0 _ _ ((lkH_ne e).trans h)
  · by_cases e : a = d
    · subst e; rw [upd_same] at h ⊢; exact h
    · rw [upd_ne e] at h ⊢; exact J.fh _ _ h
  · by_cases e : a = d
    · subst e; rw [upd_same, ← I.fh _ _ hd]; exact I.fr _ _ h hb
    · rw [upd_ne e]; exact J.fr _ _ ((lkH_ne e).trans h) hb
  · by_cases e : a = d
    · subst e; rw [upd_same, ← hd] at h; exact I.nf _ _ h
    · rw [upd_ne e] at h
      exact (J.nf _ _ h).imp (fun h => (lkH_ne e).symm.trans h) fun h => (lkH_ne e).symm.trans h
  · obtain ⟨v, hv, hs⟩ := J.sl i s h
    refine ⟨v, hv, ?_⟩
    cases s with
    | frz x => exact Rep.lk L hs
    | exn c => exact hs
    | own x =>
      obtain ⟨p, e, h1, h2, h3⟩ := hs
      have ne : p ≠ d := fun z => by rw [z, f1] at h1; cases h1
      exact ⟨p, e, by rw [upd_ne ne]; exact h1, (lkH_ne ne).symm.trans h2, h3.lk L fun o ho => by rw [upd_ne ne]; exact ho⟩
    | bor x =>
      obtain ⟨p, e, h1, h2, h3⟩ := hs
      have ne : p ≠ d := fun z => by rw [z, f1] at h1; cases h1
      exact ⟨p, e, by rw [upd_ne ne]; exact h1, h2, h3.lk L fun o ho => by rw [upd_ne ne]; exact ho⟩
  · by_cases e : p = d
    · rw [e, upd_same]; exact fun z => nomatch z
    · rw [upd_ne e]; exact J.bs p hp
  · by_cases e : a = d
    · subst e; rw [hd] at h; rw [upd_same]; exact h
    · rw [upd_ne e]; exact s _ _ (by rw [upd_ne e]; exact h)
theorem Res.unlock {s : Sl} {v : V} (f1 : F1 d = some (.frz od (.dK kvs))) (L : Lk d kvs F1 (upd F1 d (.dK kvs))) (r : Res (lkC C d (.frz od (.dK kvs))) F1 H1 e σ1 s v) : Res C (upd F1 d (.dK kvs)) (upd H1 d (.dK kvs)) e σ1 s v := by
  cases s with
  | frz x => exact Rep.lk L r
  | own x =>
    obtain ⟨p, rfl, h1, h2, h3, h4⟩ := r
    have ne : p ≠ d := fun z => by rw [z, f1] at h1; cases h1
    exact ⟨p, rfl, by rw [upd_ne ne]; exact h1, (lkH_ne ne).symm.trans h2, h3.lk L fun o ho => by rw [upd_ne ne]; exact ho, h4⟩
  | bor x => exact r
  | exn x => exact r
theorem FinS.lock {r : R DEnv Out} {T : Ends} (hz : C.rz = false) (I : In C F H σ env) (hd : F d = some (.dK kvs)) (h : FinS C F r T) : FinS (lkC C d (.frz od (.dK kvs))) (upd F d (.frz od (.dK kvs))) r
    ⟨fun σ' H' => H' d = some (.frz od (.dK kvs)) ∧ T.nx σ' (upd H' d (.dK kvs)), fun v H' => H' d = some (.frz od (.dK kvs)) ∧ T.rt v (upd H' d (.dK kvs)), fun σ' H' => H' d = some (.frz od (.dK kvs)) ∧ T.bk σ' (upd H' d (.dK kvs)), fun σ' H' => H' d = some (.frz od (.dK kvs)) ∧ T.ct σ' (upd H' d (.dK kvs))⟩ := by
  cases r with
  | no => exact h
  | er c fs e => have := h.1; rw [hz] at this; cases this
  | ok o =>
    cases o with
    | nx e => intro σ1 F1 H1 J s; obtain ⟨a, b, c, _⟩ := I.unlock hd J s; exact ⟨a, h σ1 _ _ b c⟩
    | bk e => intro σ1 F1 H1 J s; obtain ⟨a, b, c, _⟩ := I.unlock hd J s; exact ⟨a, h σ1 _ _ b c⟩
    | ct e => intro σ1 F1 H1 J s; obtain ⟨a, b, c, _⟩ := I.unlock hd J s; exact ⟨a, h σ1 _ _ b c⟩
    | rt w e => intro v σ1 F1 H1 J s r; obtain ⟨a, b, c, L⟩ := I.unlock hd J s; exact ⟨a, h v σ1 _ _ b c (r.unlock (s _ _ upd_same) L)⟩
end
/-- readings in a loop's body, whatever the ground -/
def tGs (C : Cd) (g : DS) : TS := fun T σ H => ∃ C', Gnd C C' ∧ tDS C' g T σ H
theorem PSs.ex {X : Cx} {C : Cd} {ss : List Stmt} {g : DS} (h : ∀ C', Gnd C C' → PSs X ss (tDS C' g)) : PSs X ss (tGs C g) := ⟨fun pins s σ H D I ⟨C', g, w⟩ => (h C' g).run pins s σ H D I w⟩
theorem PS.or {X : Cx} {e : Stmt} {t t' : TS} (h : PS X e t) (h' : PS X e t') : PS X e (fun D σ H => t D σ H ∨ t' D σ H) := ⟨fun pins s σ H D I w => w.elim (h.run pins s σ H D I) (h'.run pins s σ H D I)⟩
theorem Fit.gnd {X : Cx} {C C' : Cd} (ft : Fit X C) (g : Gnd C C') : Fit X C' := ⟨ft.k.trans g.k.symm, ft.m.trans g.m.symm⟩
section
variable {C C0 : Cd} {F H F1 H1 : Hp} {σ : L2.St} {e : DEnv} {J : It} {ds : List D} {ts : List Nat} {gg : DG} {gb : DS} {T : Ends}
theorem for_loop (g : Gnd C0 C) (ok : ItOk C J ds F1) (I : In C F1 H1 σ e) (h1 : FinS C F1 (forD gg gb ds e) T) : ∃ W : Nat → Nat → L2.St → Hp → Prop, (∃ m, W 0 m σ H1) ∧ ∀ i m σ H, W i m σ H →
    (J.stop i H ∧ T.nx σ H) ∨ (J.go i H ∧ ∃ N : L2.St → Hp → Prop, (∀ σ' H', N σ' H' → ∃ m', m' < m ∧ W (i + 1) m' σ' H') ∧ ∀ x H', J.yld i H x H' → tGg C0 ts gg x σ H' fun σ2 H2 => tGs C0 gb { T with nx := N, ct := N, bk := T.nx } σ2 H2) := by
  refine ⟨fun i m σ H => m = ds.length - i ∧ i ≤ ds.length ∧ ∃ F env, In C F H σ env ∧ Same F1 F ∧ FinS C F (forD gg gb (ds.drop i) env) T, ⟨ds.length, by simp, Nat.zero_le _, F1, e, I, .refl _, by simpa using h1⟩, ?_⟩
  rintro i m σ H ⟨rfl, hi, F, env, I, sF, h⟩
  rcases Nat.lt_or_ge i ds.length with hlt | hge
  · have ed : ds[i]? = some ds[i] := List.getElem?_eq_getElem hlt
    obtain ⟨go, yl⟩ := (ok F H σ env i sF I).1 _ ed
    refine .inr ⟨go, fun σ H => ∃ F env, In C F H σ env ∧ Same F1 F ∧ FinS C F (forD gg gb (ds.drop (i + 1)) env) T, fun σ' H' q => ⟨ds.length - (i + 1), by omega, rfl, hlt, q⟩, fun x H' y => ?_⟩
    obtain ⟨F', xt, r'⟩ := yl x H' y
    have I' := I.call xt
    have s' := xt.ff
    rw [List.drop_eq_getElem_cons hlt] at h
    unfold forD at h
    cases eg : gg ds[i] env with
    | none => simp only [eg] at h; exact h.elim
    | some e' =>
      simp only [eg] at h
      refine ⟨C, g, F', env, ds[i], e', I', r', eg, fun σ2 F2 H2 I2 s2 _ => ⟨C, g, F2, e', I2, ?_⟩⟩
      have sA := s'.trans s2
      cases eb : gb e' with
      | no => simp only [eb] at h; exact h
      | er c fs x => simp only [eb] at h; exact FinS.le sA h
      | ok o =>
        cases o with
        | nx z => simp only [eb] at h; exact fun σ3 F3 H3 I3 s3 => ⟨F3, z, I3, (sF.trans sA).trans s3, FinS.le (sA.trans s3) h⟩
        | ct z => simp only [eb] at h; exact fun σ3 F3 H3 I3 s3 => ⟨F3, z, I3, (sF.trans sA).trans s3, FinS.le (sA.trans s3) h⟩
        | bk z => simp only [eb] at h; exact fun σ3 F3 H3 I3 s3 => h σ3 F3 H3 I3 (sA.trans s3)
        | rt w z => simp only [eb] at h; exact fun v σ3 F3 H3 I3 s3 r3 => h v σ3 F3 H3 I3 (sA.trans s3) r3
  · have e : i = ds.length := by omega
    subst e
    rw [List.drop_length] at h
    exact .inl ⟨(ok F H σ env _ sF I).2 rfl, h σ F H I (.refl _)⟩
theorem it_vals {a : Addr} {o : Obj} {ks : List Key} {xs : List V} (hd : F1 a = some (.frz o (.dK (ks.zip xs)))) (hl : ks.length = ds.length) (hr : RepL C.K C.mg F1 ds xs) : ItOk C (Itd a o (ks.zip xs)) ds F1 := by
  intro F H σ env i s I
  have hh : H a = some (.frz o (.dK (ks.zip xs))) := I.fh _ _ (s _ _ hd)
  have lz : (ks.zip xs).length = ds.length := by rw [List.length_zip, hr.len, hl, Nat.min_self]
  refine ⟨fun x hx => ⟨⟨hh, by rw [lz]; exact (List.getElem?_eq_some_iff.mp hx).1⟩, fun y H' ⟨e1, k, hk⟩ => ?_⟩, fun e => ⟨hh, by rw [lz, e]; exact Nat.le_refl _⟩⟩
  subst e1
  obtain ⟨z, hz, rz⟩ := hr.get hx
  obtain ⟨_, h2⟩ := List.getElem?_zip_eq_some.mp hk
  rw [hz] at h2
  cases h2
  exact ⟨F, .refl I.fh, rz.mono s⟩
end
def valsD (i : Nat) : DI := fun env => match env[i]? with
  | some (some (.frz (.dK _ ds))) => .ok (ds, env)
  | _ => .no
section
variable {X : Cx} {C : Cd} {o tg : Expr} {ts : List Nat} {body : List Stmt} {gg : DG} {gb : DS} {i : Nat} {ap cp pos : Pos}
theorem qs_forVals (hz : C.rz = false) (hp : PassesOwn (model X.prog X.w) X.A X.env X.xe) (hc : X.calm = true) (ho : PE X o (tVar i)) (hg : ∀ C', Gnd C C' → PG X tg (tDG C' ts gg)) (hb : ∀ C', Gnd C C' → PSs X body (tDS C' gb))
    (hbase : attributeBase o "values" X.env (eval o X.env) = eval o X.env := by rfl) (hline : (ap.endLine == cp.line) = true := by rfl)
    (hs : ∀ x, foldedSetIterable (.Call (.Attribute o "values" ap) [] [] cp) X.env x = pure x := by intro _; rfl) : PS X (.For tg (.Call (.Attribute o "values" ap) [] [] cp) body [] pos) (tDS C (forS (valsD i) gg gb)) := by
  have q := ps_for (pos := pos) hp hc (pi_values (tg := tg) (apos := ap) (cpos := cp) ho hbase hline) (PG.ex hg) (PSs.ex hb) hs
  refine PS.weak (PS.or (ps_lock q) q) fun T σ H ⟨F, env, I, h⟩ => ?_
  unfold forS valsD at h
  split at h
  · rename_i ks ds ei
    simp only [bindS_ok] at h
    obtain ⟨v, hv, r⟩ := I.sl i _ ei
    have r : Rep C.K C.mg F (.dK ks ds) v := r
    unfold Rep at r
    obtain ⟨a, xs, rfl, rd, hl, hr⟩ := r
    rcases rd with hd | ⟨od, hd⟩
    · refine .inl ⟨a, _, I.fh _ _ hd, True.intro, fun od => ?_⟩
      have L : Lk a (ks.zip xs) F (upd F a (.frz od (.dK (ks.zip xs)))) := ⟨fun b hb => upd_ne hb, .inl hd, .inr ⟨od, upd_same⟩⟩
      refine ⟨_, hv, a, od, _, rfl, upd_same, ?_⟩
      exact for_loop (lkC_gnd (C := C)) (it_vals (C := lkC C a (.frz od (.dK (ks.zip xs)))) upd_same hl (hr.lk L)) (I.lock hd) (FinS.lock hz I hd h)
    · refine .inr ⟨_, hv, a, od, _, rfl, I.fh _ _ hd, ?_⟩
      exact for_loop ⟨hz, rfl, rfl⟩ (it_vals hd hl hr) I h
  · exact h.elim
end
section
variable {env : DEnv} {X : Str → DEnv → Prop}
def vaQ (o : Option (Option Sl)) (K : List D → Prop) (_ : Kq K) : Prop := match o with
  | some (some (.frz (.dK _ ds))) => K ds
  | _ => False
theorem va_k {ks : List Key} {ds : List D} {K : List D → Prop} : vaQ (some (some (.frz (.dK ks ds)))) K kq = K ds := rfl
theorem e_vals {i : Nat} {Q : List D × DEnv → Prop} : wE (valsD i env) Q X kq kq = vaQ env[i]? (fun ds => Q (ds, env)) kq := by
  unfold valsD vaQ
  generalize env[i]? = o
  match o with
  | none => rfl
  | some none => rfl
  | some (some (.own _)) => rfl
  | some (some (.bor _)) => rfl
  | some (some (.exn _)) => rfl
  | some (some (.frz d)) => cases d <;> rfl
end
end Dd

namespace Dd
open PySem PySem.Spec PyProof.Rows L2
/-! ### text * number -/
theorem op_repStr {X : Cx} : OpR X (binaryOp .Mult) (fun x y H Q => ∃ (c : Nat) (n : Int), x = .str ⟨#[c]⟩ ∧ y = .int n ∧ 0 ≤ n ∧ n ≤ 1000 ∧ ∀ out : Str, TL.tl out = List.replicate n.toNat c → Q (.str out) H) := by
  intro pins s σ H x y v u Q I rx ry h
  obtain ⟨c, n, rfl, rfl, n0, n1, q⟩ := h
  obtain ⟨t, rfl⟩ := rx
  obtain ⟨t2, rfl⟩ := ry
  have hz : (⟨#[c]⟩ : Str).length = 1 := rfl
  refine PySem.SB.mul ⟨?_, fun h1 _ => ?_, fun _ _ => ?_⟩ fun t' k => ⟨.str _, H, I.tok k, ⟨t', rfl⟩, q _ (PyProof.Rows.mul_one_list c n)⟩
  · rw [decide_eq_false (by omega), decide_eq_false (by omega)]
    rfl
  · have h2 : (2 ^ 63 - 1) / n ≥ (2 ^ 63 - 1) / 1000 := by
      have h3 : (2 ^ 63 - 1 : Int) / 1000 * n ≤ (2 ^ 63 - 1) / 1000 * 1000 := Int.mul_le_mul_of_nonneg_left n1 (by decide)
      exact Int.le_ediv_of_mul_le (by omega) (Int.le_trans h3 (by decide))
    have h4 : (2 ^ 63 - 1 : Int) / 1000 > 1000 := by decide
    rw [hz]
    omega
  · unfold Builtin.Str.tooLong
    rw [sizeLine_eq, hz]
    simp
    omega
def repStr (c : Nat) (n : Int) : Str := ⟨(List.replicate n.toNat c).toArray⟩
theorem repStr_list (c : Nat) (n : Int) : (repStr c n).cps.toList = List.replicate n.toNat c := by unfold repStr; simp
theorem repStr_len (c : Nat) (n : Int) : (repStr c n).length = n.toNat := by show (repStr c n).cps.size = _; unfold repStr; simp
theorem tl_repStr (out : Str) (c : Nat) (n : Int) (h : TL.tl out = List.replicate n.toNat c) : out = repStr c n := TL.ext_tl (h.trans (repStr_list c n).symm)
def gMulX : D → D → Option Sl
  | .str z, .int n => match z.cps.toList with
    | [c] => if 0 ≤ n ∧ n ≤ 1000 then some (.frz (.str (repStr c n))) else none
    | _ => none
  | a, b => gMul a b
theorem gMulX_i {i : Int} {b : D} : gMulX (.int i) b = gMul (.int i) b := rfl
theorem gMulX_l {i : List D} {b : D} : gMulX (.lst i) b = gMul (.lst i) b := rfl
theorem gMulX_s {z : Str} {c : Nat} {n : Int} (h : z.cps.toList = [c]) (h0 : 0 ≤ n) (h1 : n ≤ 1000) : gMulX (.str z) (.int n) = some (.frz (.str (repStr c n))) := by
  show (match z.cps.toList with | [c] => _ | _ => _) = _
  rw [h]
  exact if_pos ⟨h0, h1⟩
def rMulX : R2 := fun x y H Q => rMulA x y H Q ∨ ∃ (c : Nat) (n : Int), x = .str ⟨#[c]⟩ ∧ y = .int n ∧ 0 ≤ n ∧ n ≤ 1000 ∧ ∀ out : Str, TL.tl out = List.replicate n.toNat c → Q (.str out) H
theorem op_mulX {X : Cx} : OpR X (binaryOp .Mult) rMulX := OpR.or op_mulA op_repStr
theorem ok_mulX {C : Cd} : OpOk C rMulX gMulX := by
  intro F H σ env x y d e s Q I rx ry hg k
  unfold gMulX at hg
  split at hg
  · rename_i z n
    split at hg
    · rename_i c hc
      split at hg
      · rename_i hn
        cases hg
        have ez : z = ⟨#[c]⟩ := TL.ext_tl (show z.cps.toList = _ by rw [hc])
        exact .inr ⟨c, n, by rw [rx.str, ez], ry.int, hn.1, hn.2, fun out ho => by rw [tl_repStr out c n ho]; exact k _ F H I (.refl _) resStr⟩
      · cases hg
    · cases hg
  · exact .inl (ok_mul F H σ env x y d e s Q I rx ry hg k)
/-! ### x.split(sep) -/
theorem RepL.strs {K : PySem.W.Frag} {mg : Str → Option Value} {H : Hp} : ∀ {ys : List Str}, RepL K mg H (ys.map D.str) (ys.map V.str)
  | [] => repNil
  | n :: r => repCons rStr RepL.strs
def gSplit (a : Str) : D → Option Sl
  | .str b => if (b.length == 0) = false ∧ a.length ≤ 16000000 then some (.own (.lst ((Txt.split a b).map .str))) else none
  | _ => none
def splitD (fo fa : DE) : DE := fun env => (fo env).bind fun p => match p.1.d with
  | .str a => (argsD [fa] p.2).bind fun q => (match q.1 with
    | [d] => (match gSplit a d with
      | some s => .ok (s, q.2)
      | none => .no)
    | _ => .no)
  | _ => .no
theorem qe_split {X : Cx} {C : Cd} {o e : Expr} {fo fa : DE} {apos cpos : Pos} (ft : Fit X C) (ho : PE X o (tD C fo)) (ha : PA X [e] (tDA C [fa]))
    (hbase : attributeBase o "split" X.env (eval o X.env) = eval o X.env := by rfl)
    (hfew : ((backTo cpos (starEach [e] X.env)).all (fun x => !x.1) && (backToKw cpos (keywordEach [] X.env)).all (fun x => x.1.isSome) && decide ([e].length + ([] : List Keyword).length + (if ([] : List Keyword).isEmpty then 0 else 1) < 30)) = true := by rfl)
    (hline : (apos.endLine == cpos.line) = true := by rfl) (hs : starEach [e] X.env = (false, eval e X.env) :: starEach [] X.env := by rfl) (hplain : (backTo cpos (starEach [] X.env)).any (·.1) = false := by rfl) :
    PE X (.Call (.Attribute o "split" apos) [e] [] cpos) (tD C (splitD fo fa)) := by
  have q := pe_bm (apos := apos) PySem.F.plainAttrs_str PySem.F.slot_str_split PySem.F.type_str_split mt_split (qz ho) ha hbase hfew hline hs hplain
  rw [ft.k] at q
  refine PE.weak q fun σ H Q ⟨F, env, I, h⟩ => ⟨F, env, I, (Fin.bnd h).imp fun s e F1 H1 I1 s1 h1 x rx => ?_⟩
  cases ed : s.d with
  | str a =>
    rw [ed] at rx
    simp only [ed] at h1
    refine ⟨by rw [rx.str]; trivial, F1, e, I1, (Fin.bnd h1).imp fun ds e2 F2 H2 I2 s2 h2 vs rv => ?_⟩
    match ds, rv, h2 with
    | [d], rv, h2 =>
      obtain ⟨v, rfl, rd⟩ := rep1 rv
      unfold gSplit at h2
      cases d with
      | str b =>
        simp only at h2
        split at h2
        · rename_i z hz
          split at hz
          · rename_i hle
            cases hz
            refine ⟨a, b, rx.str, by rw [rd.str], hle.1, Nat.le_trans (Nat.add_le_add_right hle.2 2) (by decide), fun p np => ?_⟩
            obtain ⟨I3, fr⟩ := I2.newList np (RepL.strs (K := C.K) (mg := C.mg) (H := F2) (ys := Txt.split a b))
            exact h2 F2 _ I3 (.refl _) _ ⟨p, rfl, fr⟩
          · cases hz
        · exact h2.elim
      | _ => exact h2.elim
    | [], _, h2 => exact h2.elim
    | _ :: _ :: _, _, h2 => exact h2.elim
  | _ => simp only [ed] at h1; exact h1.elim
section
variable {env : DEnv} {X : Str → DEnv → Prop} {Q : Sl × DEnv → Prop} {fo fa : DE}
theorem e_split : wE (splitD fo fa env) Q X kq kq = wE (fo env) (fun p => strQ p.1.d (fun a => wE (argsD [fa] p.2) (fun q => l1Q q.1 (fun d => oQ (gSplit a d) (fun s => Q (s, q.2)) kq) kq) X kq kq) kq) X kq kq := by
  unfold splitD
  rw [x_bind]
  refine wR_cg fun p => ?_
  unfold strQ
  cases p.1.d with
  | str a =>
    simp only
    rw [x_bind]
    refine wR_cg fun q => ?_
    obtain ⟨l, e⟩ := q
    match l with
    | [] => rfl
    | [d] => show wR (match gSplit a d with | some s => R.ok (s, e) | none => R.no) Q X = oQ (gSplit a d) (fun s => Q (s, e)) kq; cases gSplit a d <;> rfl
    | _ :: _ :: _ => rfl
  | _ => rfl
end
/-! ### {(y1, ..): e} -/
section
variable {X : Cx} {pins : List (Addr × Obj)} {σ : L2.St} {H : Hp} {s : Shared} {a b : Addr} {k : List Key} {v : V} {r : Value} {A : Around} {E : Value → Shared → Prop}
theorem d_store1 {Q : Unit → Shared → Prop} (hu : A.units + 1 < cLine) (I : Inv X pins σ H s) (e : H a = some (.dT [])) (eb : H b = some (.tup (k.map kV))) (rv : RelV v r) (h : ∀ s', Inv X pins σ (upd H a (.dT [(k, v)])) s' → Q () s') :
    wpAny (model X.prog X.w) A (dictSet a (.ref b) r) Q E s := by
  obtain ⟨z, hd, xs, rel, dd⟩ := dt_of I.hok e
  have hz : xs.length ≤ sizeLine := by rw [← Paired.length rel]; exact z
  have hl : (L2.putK ([] : List (List Key × V)) k v).length ≤ sizeLine := by have := length_putK ([] : List (List Key × V)) k v; simp at this; exact Nat.le_trans this (by decide)
  refine wpAny_dictSet_heap (hsz := hz) (show A.units < cLine by omega) (key_of I.hok eb) dd fun h' dd' hs => h _ ?_
  obtain ⟨q, es, ep, hq, h2, h3, h4, _, h5⟩ := dd'
  refine d_write I (by rw [e]; exact True.intro) hs ⟨q, hq⟩ ⟨hl, hd, _, (rel.put k eb rv).keeps fun c ys ec => ?_, q, es, ep, hq, h2, h3, h4, h5⟩
  rw [upd_ne (ne_of ec e (fun z => nomatch z))]
  exact ec
end
def tDisp1T (tk tv : TE) : TE := fun σ H Q => ∀ p, H p = none → tk σ (upd H p (.dT [])) fun x H1 => tv σ H1 fun y H2 => H2 p = some (.dT []) ∧ ∃ (k : List Key) (b : Addr), x = .ref b ∧ H2 b = some (.tup (k.map kV)) ∧ Q (.ref p) (upd H2 p (.dT [(k, y)]))
theorem pe_disp1T {X : Cx} {k v : Expr} {tk tv : TE} {pos : Pos} (hu : X.A.units + 1 < cLine) (hk : PE X k tk) (hv : PE X v tv) : PE X (.Dict [some k] [v] pos) (tDisp1T tk tv) := by
  refine ⟨fun pins s σ H Q I q => ?_⟩
  have hn := I.hok.fresh (Nat.le_refl s.heap.objs.size)
  have I1 := I.laid (a := s.heap.objs.size) (o := .dT []) (h' := s.heap.push { cls := .type "dict", data := .dict #[] }) (t' := s.toks) (fun _ _ q => Heap.get?_push_of_some _ q) (Nat.le_refl _) (dt_empty s.heap I.big)
  refine wpAny_Dict_any (by rfl) (by rfl) (fun z => nomatch z) (by simp) ?_
  refine pairTrees_cons_walk (thn (hk.run pins _ σ _ _ I1 (q _ hn)) fun u s1 ⟨x, H1, I2, rx, q1⟩ => thn (hv.run pins s1 σ H1 _ I2 q1) fun w2 s2 ⟨y, H2, I3, ry, ed, kk, b, ex, eb, q2⟩ => pairTrees_nil_walk ?_)
  subst ex
  obtain rfl : u = Value.ref b := rx
  unfold storeAll
  rw [List.forIn_cons]
  refine wpAny_bind (wpAny_bind (d_store1 hu I3 ed eb ry fun s' I' => wpAny_pure ?_))
  show wpAny _ _ (forIn [] _ _) _ _ _
  rw [List.forIn_nil]
  exact wpAny_pure ⟨.ref s.heap.objs.size, _, I', rfl, q2⟩
def disp1TD (fs : List DE) (fv : DE) : DE := fun env => bind0 (argsD fs (lendE env)) fun a => bind0 (fv a.2) fun q => match keysD a.1 with
  | some k => .ok (.own (.dT [k] [q.1.d]), backE env q.2)
  | none => .no
def tGa (C : Cd) (fs : List DE) : TA := fun σ H Q => ∃ C', Gnd C C' ∧ tDA C' fs σ H Q
theorem PA.ex {X : Cx} {C : Cd} {es : List Expr} {fs : List DE} (h : ∀ C', Gnd C C' → PA X es (tDA C' fs)) : PA X es (tGa C fs) := ⟨fun pos pins s σ H Q I ⟨C', g, w⟩ => (h C' g).run pos pins s σ H Q I w⟩
theorem qe_disp1T {X : Cx} {C : Cd} {es : List Expr} {v : Expr} {kk : Nat} {tp pos : Pos} {fs : List DE} {fv : DE} (hu : X.A.units + 1 < cLine) (hk : ∀ C', Gnd C C' → PA X es (tDA C' fs)) (hv : ∀ C', Gnd C C' → PE X v (tD C' fv)) (hl : fs.length ≤ sizeLine := by decide) :
    PE X (.Dict [some (.Tuple es kk tp)] [v] pos) (tD C (disp1TD fs fv)) := by
  refine PE.weak (pe_disp1T hu (pe_tup (PA.ex hk)) (PE.ex hv)) fun σ H Q ⟨F, env, I, h⟩ p np => ?_
  have nF := I.none np
  have n0 := I.none0 np
  have nM : ¬ MutA env σ p := fun ⟨i, s, h1, h2, h3⟩ => I.slotNe np i s h1 h2 h3
  have Il := (I.fresh (o := .dT []) np).lendTo
  unfold disp1TD at h
  cases ea : argsD fs (lendE env) with
  | no => rw [ea] at h; exact h.elim
  | er c x z => rw [ea] at h; exact h.elim
  | ok a =>
    rw [ea, bind0_ok] at h
    refine ⟨⟨C.K, C.mg, F, upd H p (.dT []), MutA env σ, W0, C.ex, C.exc, false⟩, ⟨rfl, rfl, rfl⟩, F, lendE env, Il, ?_⟩
    rw [ea]
    intro F2 H2 I2 s2 vs rv
    refine ⟨by rw [rv.len, argsD_len ea]; exact hl, fun b nb => ?_⟩
    have I3 := I2.alloc (o := .tup vs) nb
    refine ⟨⟨C.K, C.mg, F, upd H p (.dT []), MutA env σ, W0, C.ex, C.exc, false⟩, ⟨rfl, rfl, rfl⟩, _, a.2, I3, ?_⟩
    cases ev : fv a.2 with
    | no => rw [ev] at h; exact h.elim
    | er c x z => rw [ev] at h; exact h.elim
    | ok q =>
      rw [ev, bind0_ok] at h
      intro F4 H4 I4 s4 w rw_
      cases ek : keysD a.1 with
      | none => rw [ek] at h; exact h.elim
      | some k =>
        rw [ek] at h
        have hp4 : H4 p = some (.dT []) := I4.fr p _ upd_same nM
        have hb4 : H4 b = some (.tup (k.map kV)) := by
          have := I4.fh _ _ (s4 _ _ (upd_same (H := F2) (a := b) (o := .tup vs)))
          rw [this, keys_rep rv ek]
        have nF4 : F4 p = none := by
          cases e : F4 p with
          | none => rfl
          | some o =>
            rcases I4.nf p o e with z | z
            · have z : F p = some o := z
              rw [nF] at z; cases z
            · have z : upd H p (.dT []) p = none := z
              rw [upd_same] at z; cases z
        have I6 := I.fresh (o := .dT []) np |>.backFrom I4
        have nM6 : ¬ MutA (backE env q.2) σ p := fun z => nM (mut_back z)
        refine ⟨hp4, k, b, rfl, hb4, ?_⟩
        refine h F4 _ (I6.poke hp4 nF4 n0 nM6) I4.f0 (.ref p) ⟨p, rfl, nF4, n0, ⟨[w], upd_same, rfl, repCons rw_ repNil⟩, fun i s h1 h2 h3 => nM6 ⟨i, s, h1, h2, h3⟩⟩
section
variable {env : DEnv} {X : Str → DEnv → Prop} {Q : Sl × DEnv → Prop} {fs : List DE} {fv : DE}
theorem e_disp1 : wE (disp1TD fs fv env) Q X kq kq = wE (argsD fs (lendE env)) (fun a => wE (fv a.2) (fun q => oQ (keysD a.1) (fun k => Q (.own (.dT [k] [q.1.d]), backE env q.2)) kq) (fun _ _ => False) kq kq) (fun _ _ => False) kq kq := by
  unfold disp1TD
  cases argsD fs (lendE env) with
  | no => rfl
  | er c x z => cases x <;> rfl
  | ok a =>
    show wE (bind0 (fv a.2) _) Q X kq kq = wE (fv a.2) _ _ kq kq
    cases fv a.2 with
    | no => rfl
    | er c x z => cases x <;> rfl
    | ok q =>
      show wE (match keysD a.1 with | some k => _ | none => _) Q X kq kq = oQ (keysD a.1) _ kq
      cases keysD a.1 <;> rfl
end
end Dd

namespace Dd
open PySem PySem.Spec PyProof.Rows L2
/-! ### a token is out: x.replace(y, z) -/
def PA1 (X : Cx) (es : List Expr) (t : TA) : Prop := ∀ (pos : Pos) (pins : List (Addr × Obj)) (s : Shared) (σ : L2.St) (H : Hp) (Q : List V → Hp → Prop), Inv X pins σ H s → t σ H Q → wpAny (model X.prog X.w) X.A (spliced (backTo pos (starEach es X.env))) (fun us s' => 1 ≤ s'.toks ∧ AP X pins σ Q us s') X.xe s
section
variable {X : Cx} {C : Cd} {e : Expr} {es : List Expr} {f : DE} {fs : List DE} {st : Stmt} {rest : List Stmt} {g1 g2 : DS} {pos : Pos}
theorem qa1_int {i : Int} {j : Nat} {p : Pos} (hr : PA X es (tDA C fs)) (hs : starEach (.Constant (.int i) j p :: es) X.env = (false, eval (.Constant (.int i) j p) X.env) :: starEach es X.env := by rfl) : PA1 X (.Constant (.int i) j p :: es) (tDA C (conD (.int i) :: fs)) := by
  intro pos pins s σ H Q I h
  obtain ⟨F, env, I0, h⟩ := ta_cons h
  have h1 := h.here I0 (.int i) rInt
  rw [hs]
  show wpAny _ _ (spliced ((false, eval (.Constant (.int i) j p) X.env) :: backTo pos (starEach es X.env))) _ _ s
  refine Calls.spliced_cons (wpAny_Constant_int ?_)
  refine wpAny_mono (PySem.wpAny_toks_of (n := 1) (by show 1 ≤ s.toks + 1; omega) (hr.run pos pins _ σ H _ (I.tok _) h1)) (fun us s2 q => ?_) fun _ _ z => z.2
  obtain ⟨hk, xs, H2, I2, r2, q2⟩ := q
  exact ⟨hk, .int i :: xs, H2, I2, .cons ⟨_, rfl⟩ r2, q2⟩
theorem qa1_cons (ha : PE X e (tD C f)) (hr : PA1 X es (tDA C fs)) (hs : starEach (e :: es) X.env = (false, eval e X.env) :: starEach es X.env := by rfl) : PA1 X (e :: es) (tDA C (f :: fs)) := by
  intro pos pins s σ H Q I h
  rw [hs]
  show wpAny _ _ (spliced ((false, eval e X.env) :: backTo pos (starEach es X.env))) _ _ s
  refine Calls.spliced_cons (thn ((qz ha).run pins s σ H _ I (ta_cons h)) fun u s1 ⟨x, H1, I1, r1, q1⟩ => ?_)
  exact thn (hr pos pins s1 σ H1 _ I1 q1) fun us s2 ⟨hk, xs, H2, I2, r2, q2⟩ => ⟨hk, x :: xs, H2, I2, .cons r1 r2, q2⟩
theorem t_lst {fs : List DE} (hl : fs.length ≤ sizeLine) {σ : L2.St} {H : Hp} {Q : VK} : tD C (lstD fs) σ H Q → tLst (tDA C fs) σ H Q := fun ⟨F, env, I, h⟩ => ⟨F, env, I, by
  unfold lstD at h
  cases e : argsD fs env with
  | no => rw [e] at h; exact h
  | er c x y => rw [e] at h; exact h
  | ok p =>
    rw [e] at h
    intro F' H' I' s' vs rv
    refine ⟨by rw [rv.len, argsD_len e]; exact hl, fun q nq => ?_⟩
    obtain ⟨I2, fr⟩ := I'.newList nq rv
    exact h _ _ I2 s' _ ⟨q, rfl, fr⟩⟩
theorem t_seq {T : Ends} {σ : L2.St} {H : Hp} : tDS C (seqD g1 g2) T σ H → tSeq (tDS C g1) (tDS C g2) T σ H := fun ⟨F, env, I, h⟩ => ⟨F, env, I, by
  unfold seqD at h
  cases e : g1 env with
  | no => rw [e] at h; exact h
  | er c fs x => rw [e] at h; exact h
  | ok o =>
    rw [e] at h
    cases o with
    | nx x => exact fun σ' F' H' I' s' => ⟨F', x, I', FinS.le s' h⟩
    | rt z x => exact h
    | bk x => exact h
    | ct x => exact h⟩
/-- x = [.., a number] is the first row: behind it a token is out -/
theorem qss_lst1 {i : Nat} {x : Str} {pos' pl : Pos} (hN : X.N.Nodup) (hi : X.N[i]? = some x) (hx : Loc X.env.scope x) (he : PA1 X es (tDA C fs)) (h2 : PSsT X rest (tDS C g2)) (hl : fs.length ≤ sizeLine := by decide)
    (hs : swapsWith (.List es pl) (some (.Name x pos')) pos.line X.env = pure false := by rfl) (hf : X.fn x = true ∨ X.env.scope.names.lookup x = some .local := by first | exact .inl rfl | exact .inr rfl | assumption) :
    PSs X (.Assign [.Name x pos'] (.List es pl) pos :: rest) (tDS C (seqD (setD i (lstD fs)) g2)) := by
  refine ⟨fun pins s σ H D I h => ?_⟩
  have h := t_lst hl (t_set (t_seq h))
  refine wpAny_execs_cons (wpAny_Assign_Name (wpAny_List_spliced (thn (he pl pins s σ H _ I h) fun us s1 ⟨hk, xs, H1, I1, r, z, q⟩ => ⟨by rw [← r.length]; exact z, ?_⟩)) hs)
  have hf' : H1 s1.heap.objs.size = none := I1.hok.fresh (Nat.le_refl _)
  have I2 : Inv X pins σ (upd H1 s1.heap.objs.size (.lst xs)) _ := I1.laid (t' := s1.toks) (fun b u e => Heap.get?_push_of_some _ e) (Nat.le_refl _) ⟨z, us, 0, r, Heap.get?_push_size _ rfl⟩
  refine wpAny_mono (PySem.wpAny_toks_of (n := 1) (by show 1 ≤ s1.toks; exact hk) (store_ok (v := V.ref s1.heap.objs.size) (Q := fun _ s2 => Inv X pins (σ.set i (some (V.ref s1.heap.objs.size))) _ s2) I2 hN hi hx rfl (fun _ I3 => I3) hf)) (fun _ s2 q3 => ?_) fun _ _ z => z.2
  exact h2 pins s2 _ _ D q3.1 q3.2 (q _ hf')
theorem qst_of (h : PS X st (tDS C g1)) : PST X st (tDS C g1) := PST.of h
theorem qsst_of (h : PSs X rest (tDS C g1)) : PSsT X rest (tDS C g1) := PSsT.of h
theorem qsst_cons (h1 : PST X st (tDS C g1)) (h2 : PSsT X rest (tDS C g2)) : PSsT X (st :: rest) (tDS C (seqD g1 g2)) := fun pins s σ H D h0 I h => psst_cons h1 h2 pins s σ H D h0 I (t_seq h)
/-- x = e, e behind a token -/
theorem qst_set {i : Nat} {x : Str} {pos' : Pos} (hN : X.N.Nodup) (hi : X.N[i]? = some x) (hx : Loc X.env.scope x) (he : PET X e (tD C f)) (hs : swapsWith e (some (.Name x pos')) pos.line X.env = pure false := by rfl) (hf : X.fn x = true ∨ X.env.scope.names.lookup x = some .local := by first | exact .inl rfl | exact .inr rfl | assumption) :
    PST X (.Assign [.Name x pos'] e pos) (tDS C (setD i f)) := by
  intro pins s σ H D h0 I h
  refine wpAny_Assign_Name (thn (he pins s σ H _ h0 I (t_set h)) fun v s1 ⟨y, H1, I1, r1, q1⟩ => ?_) hs
  exact store_ok I1 hN hi hx r1 (fun s2 I2 => ⟨_, H1, I2, q1⟩) hf
theorem qet_call {x : Str} {k : Nat} {ps : List Str} {p : Pos} {g : DF} (ft : Fit X C) (O : Ok X.prog X.w X.K X.mg X.base CX0 x st k ps (sp0 X.K X.mg ps.length g)) (hz : C.rz = false) (hr : Room k X.A) (hg : Gl X x) (ha : PAT X (e :: es) (tDA C fs)) (hn : fs.length = ps.length := by rfl) (hdb : (x == ("__debug__" : Str)) = false := by decide) (he : starEach (e :: es) X.env = (false, eval e X.env) :: starEach es X.env := by rfl) (hpl : (backTo pos (starEach es X.env)).any (·.1) = false := by rfl) :
    PET X (.Call (.Name x p) (e :: es) [] pos) (tD C (callD g fs)) := by
  obtain ⟨f, fd, F, G, m, b⟩ := O
  intro pins s σ H Q h0 I h
  have q := t_call0 (E := E0) hn hz h
  rw [← ft.k, ← ft.m] at q
  refine wpAny_Call_Name_kw (ld_glob I hg m ?_ hdb)
  refine PySem.W.callWith_K (h₀ := X.base) I.ok.mod.kin F.kp (thn (ha pos pins s σ H _ h0 I q) fun us s1 ⟨vs, H1, I1, r, q⟩ => ⟨I1.kIn, ?_⟩) he hpl
  exact run_fn G hr b .nil pass0 I1 r (by rw [List.append_nil]; exact q)
theorem qat_one (h : PET X e (tDz C f)) (hx : starEach [e] X.env = (false, eval e X.env) :: starEach [] X.env := by rfl) : PAT X [e] (tDA C [f]) := fun pos pins s σ H Q h0 I w => pat_cons h pat_nil hx pos pins s σ H Q h0 I (by
  have w := ta_cons w
  obtain ⟨F, env, I0, w⟩ := w
  exact ⟨F, env, I0, w.imp fun a e F' H' I' s' k v r => ta_nil (k v r)⟩)
def replD (fo : DE) (y z : Str) : DE := fun env => (fo env).bind fun p => match p.1.d with
  | .str x => if x.length + (x.length + 1) * z.length ≤ 16000000 then .ok (.frz (.str (Txt.replace x y z)), p.2) else .no
  | _ => .no
theorem qet_repl {o : Expr} {fo : DE} {y z : Str} {j k : Nat} {c0 c1 apos : Pos} (ho : PE X o (tD C fo)) (hyz : (y == z) = false := by decide)
    (hst : starEach [.Constant (.str y) j c0, .Constant (.str z) k c1] X.env = [(false, eval (.Constant (.str y) j c0) X.env), (false, eval (.Constant (.str z) k c1) X.env)] := by rfl)
    (hbase : attributeBase o "replace" X.env (eval o X.env) = eval o X.env := by rfl) (hline : (apos.endLine == pos.line) = true := by rfl) :
    PET X (.Call (.Attribute o "replace" apos) [.Constant (.str y) j c0, .Constant (.str z) k c1] [] pos) (tDz C (replD fo y z)) := by
  intro pins s σ H Q h0 I h
  refine CwR.pet_replC (qz ho) hyz hst hbase hline pins s σ H Q h0 I ?_
  obtain ⟨F, env, I0, h⟩ := h
  refine ⟨F, env, I0, (Fin.bnd h).imp fun s e F1 H1 I1 s1 h1 x rx => ?_⟩
  cases ed : s.d with
  | str a =>
    rw [ed] at rx
    simp only [ed] at h1
    split at h1
    · rename_i hle
      exact ⟨a, rx.str, Nat.le_trans hle (by decide), h1.here I1 _ rStr⟩
    · exact h1.elim
  | _ => simp only [ed] at h1; exact h1.elim
end
section
variable {env : DEnv} {X : Str → DEnv → Prop} {Q : Sl × DEnv → Prop} {fo : DE} {y z : Str}
theorem e_repl : wE (replD fo y z env) Q X kq kq = wE (fo env) (fun p => strQ p.1.d (fun x => iQ (decide (x.length + (x.length + 1) * z.length ≤ 16000000)) (Q (.frz (.str (Txt.replace x y z)), p.2)) False kq kq) kq) X kq kq := by
  unfold replD
  rw [x_bind]
  refine wR_cg fun p => ?_
  unfold strQ
  cases p.1.d with
  | str a =>
    simp only
    by_cases h : a.length + (a.length + 1) * z.length ≤ 16000000
    · rw [if_pos h, decide_eq_true h]; rfl
    · rw [if_neg h, decide_eq_false h]; rfl
  | _ => rfl
end
end Dd

namespace Dd
open PySem PySem.Spec PyProof.Rows L2
/-! ### a promise that another one brings -/
theorem Ok.imp {P : Program} {w : World} {K : PySem.W.Frag} {mg : Str → Option Value} {base : Heap} {C : CXT} {x : Str} {st : Stmt} {k : Nat} {ps : List Str} {sp sp' : Sp} (O : Ok P w K mg base C x st k ps sp) (h : ∀ vs H Q E, sp' vs H Q E → sp vs H Q E) : Ok P w K mg base C x st k ps sp' := by
  obtain ⟨f, fd, F, G, m, b⟩ := O
  exact ⟨f, fd, F, G.imp h, m, b⟩
end Dd

namespace Dd
open PySem PySem.Spec PyProof.Rows L2
/-! ### equations: while, pop, d[k] = v, in -/
section
variable {env : DEnv} {X : Str → DEnv → Prop} {Q : Sl × DEnv → Prop} {T : Out → Prop} {fe fk : DE}
theorem e_while0 {c : DT} {g : DS} : wE (whileD c g 0 env) T X kq kq = False := rfl
theorem e_whileS {c : DT} {g : DS} {n : Nat} : wE (whileD c g (n + 1) env) T X kq kq = wE (c env) (fun p => iQ p.1 (wE (g p.2) (loopT (fun e => wE (whileD c g n e) T X kq kq) T) X kq kq) (T (.nx p.2)) kq kq) X kq kq := by
  rw [whileD, x_bindS]
  refine wR_cg fun p => ?_
  cases p.1 with
  | false => rfl
  | true =>
    simp only [iQ_t]
    cases g p.2 with
    | no => rfl
    | er c fs z => cases fs <;> rfl
    | ok o => cases o <;> rfl
def lasQ (o : Option D) (K : D → Prop) (_ : Kq K) : Prop := match o with
  | some d => K d
  | none => False
theorem e_pop {i : Nat} : wE (popD i env) Q X kq kq = slQ env[i]? (fun s => iQ s.mut (lsQ s.d (fun ds => oQ (ds[ds.length - 1]?) (fun d => eQ (env.set i (some (s.put (.lst (ds.take (ds.length - 1)))))) (fun e => Q (.frz d, e)) kq) kq) kq) False kq kq) kq := by
  unfold popD slQ
  cases env[i]? with
  | none => rfl
  | some o =>
    cases o with
    | none => rfl
    | some s =>
      simp only
      cases s.mut with
      | false => rfl
      | true =>
        simp only [iQ_t]
        cases s.d with
        | lst ds => simp only [ls_l]; cases ds[ds.length - 1]? <;> rfl
        | _ => rfl
def dkQ (d : D) (K : List Key → List D → Prop) (_ : Kq K) : Prop := match d with
  | .dK ks ds => K ks ds
  | _ => False
theorem dk_k {ks : List Key} {ds : List D} {K : List Key → List D → Prop} : dkQ (.dK ks ds) K kq = K ks ds := rfl
theorem e_dput {i : Nat} : wE (dputD i fe fk env) T X kq kq = wE (fe env) (fun p => slQ p.2[i]? (fun _ => wE (fk p.2) (fun q => slQ q.2[i]? (fun s => iQ s.mut (dkQ s.d (fun ks ds => oQ (keyD q.1.d) (fun k => iQ (decide (ds.length < lim)) (eQ (q.2.set i (some (s.put (.dK (kPut k ks) (vPut k p.1.d ks ds))))) (fun e => T (.nx e)) kq) False kq kq) kq) kq) False kq kq) kq) X kq kq) kq) X kq kq := by
  unfold dputD
  rw [x_bindS]
  refine wR_cg fun p => ?_
  unfold slQ
  cases p.2[i]? with
  | none => rfl
  | some o =>
    cases o with
    | none => rfl
    | some s0 =>
      simp only
      rw [x_bindS]
      refine wR_cg fun q => ?_
      cases q.2[i]? with
      | none => rfl
      | some o =>
        cases o with
        | none => rfl
        | some s =>
          simp only
          cases s.mut with
          | false => rfl
          | true =>
            cases s.d with
            | dK ks ds =>
              simp only [iQ_t, dk_k]
              cases keyD q.1.d with
              | none => rfl
              | some k =>
                simp only [oQ_s]
                by_cases h : ds.length < lim
                · rw [if_pos h, decide_eq_true h]; rfl
                · rw [if_neg h, decide_eq_false h]; rfl
            | _ => rfl
theorem e_dinN {i : Nat} {n : Bool} : wE (dinND n fk i env) Q X kq kq = wE (fk env) (fun p => slQ p.2[i]? (fun s => oQ s.val (fun d => oQ (gDIn p.1.d d) (fun b => Q (.frz (.bl (b ^^ n)), p.2)) kq) kq) kq) X kq kq := by
  unfold dinND
  rw [x_bind]
  refine wR_cg fun p => ?_
  unfold slQ
  cases p.2[i]? with
  | none => rfl
  | some o =>
    cases o with
    | none => rfl
    | some s =>
      simp only
      cases s.val with
      | none => rfl
      | some d =>
        simp only [oQ_s]
        cases gDIn p.1.d d <;> rfl
end
theorem kPut_n {κ : Type} [DecidableEq κ] {k : κ} : kPut k ([] : List κ) = [k] := rfl
theorem vPut_n {κ : Type} [DecidableEq κ] {α : Type} {k : κ} {y : α} : vPut k y ([] : List κ) ([] : List α) = [y] := rfl
theorem kPut_new {κ : Type} [DecidableEq κ] {k : κ} {ks : List κ} (h : k ∉ ks) : kPut k ks = ks ++ [k] := if_neg h
theorem vPut_new {κ : Type} [DecidableEq κ] {α : Type} {k : κ} {y : α} {ks : List κ} {ys : List α} (h : k ∉ ks) : vPut k y ks ys = ys ++ [y] := if_neg h
theorem mut_o {d : D} : Sl.mut (.own d) = true := rfl
theorem bx_f {b : Bool} : (b ^^ false) = b := Bool.xor_false b
theorem bx_t {b : Bool} : (b ^^ true) = !b := Bool.xor_true b
theorem gTuple_l {ds : List D} : gTuple [.lst ds] = some (.frz (.tup ds)) := rfl
theorem gExt_l {ds es : List D} (h : ds.length + es.length ≤ 16000000) : gExtend ds [.lst es] = some (.frz .non, ds ++ es) := if_pos h
end Dd

namespace Dd
open PySem PySem.Spec PyProof.Rows L2
/-! ### the head's look, less of it: classes with all that they reach, defs with little -/
def nameN (n : Nat) (g : Addr → Option Obj) (x : Str) : List Addr := match PySem.W.nsIn (He.frG g [mainGlobals]) mainGlobals x with
  | some (some (.ref a)) => reachG g n a
  | _ => []
def selT (cs ys : List Str) (g : Addr → Option Obj) : List Addr := cStatics :: mainGlobals :: (cs.flatMap (fun x => (nameN 5 g x).eraseDups) ++ ys.flatMap (nameN 2 g))
def obsTG (fl : Str) (cs ys : List Str) (ex : PySem.W.Frag → List Bool) (fn fs : List He.DefD) (g : Addr → Option Obj) : AlS := obsS fl ex fn fs (He.frG g (selT cs ys g))
def hookT (fl : Str) (cs ys : List Str) (ex : PySem.W.Frag → List Bool) (fn fs : List He.DefD) : PySem.W.Hook where
  α := AlS
  obs := fun s => obsTG fl cs ys ex fn fs s.heap.get?
  val := fun _ => valS fn fs
  says := fun _ h => ∃ K : PySem.W.Frag, K.In h ∧ SaysS fl ex fn fs K
  of := fun _ _ e => ⟨_, He.frG_in, e⟩
  keeps := fun _ _ _ ⟨K, hK, c⟩ k => ⟨K, PySem.W.Frag.In.keeps hK k, c⟩
theorem obsTG_eq {fl : Str} {cs ys : List Str} {ex : PySem.W.Frag → List Bool} {fn fs : List He.DefD} {g : Addr → Option Obj} {s : Shared} (h : ∀ a, g a = s.heap.get? a) : obsTG fl cs ys ex fn fs g = (hookT fl cs ys ex fn fs).obs s := by
  have e : g = s.heap.get? := funext h
  rw [e] <;> rfl
end Dd

namespace Dd
open PySem PySem.Spec PyProof.Rows L2 CwR
/-! ### [.. for x in e if ..] where e wants a token -/
/-- what a block keeps true from turn to turn -/
def KeepB (Y : Cx) (σ : L2.St) (tn : Nat → Heap → Prop) (fp : List Addr) (W : Nat → Nat → Hp → Prop) (n : Nat) (t : Shared) : Prop :=
  ∃ (i : Nat) (H : Hp), Inv Y [] σ H t ∧ tn i t.heap ∧ (∀ b ∈ fp, H b = none) ∧ W i n H
/-- the turns of a block's iterator: what each reaches -/
abbrev TurnsB (J : It) (g : TG) (tt : TT) (te : TE) (vs : List Nat) (σ : L2.St) (D : Addr) (W : Nat → Nat → Hp → Prop) (E : Hp → Prop) : Prop :=
  ∀ i m H, W i m H → (J.stop i H ∧ E H) ∨ (J.go i H ∧ ∃ Nx : Hp → Prop, (∀ H', Nx H' → ∃ m', m' < m ∧ W (i + 1) m' H') ∧ ∀ x H', J.yld i H x H' → g x (L2.wipe σ vs) H' fun σ2 H2 => L2.wipe σ2 vs = L2.wipe σ vs ∧ tt σ2 H2 fun b H3 =>
    if b = true then te σ2 H3 fun y H4 => ∃ acc, H4 D = some (.lst acc) ∧ acc.length < sizeLine ∧ Nx (upd H4 D (.lst (acc ++ [y]))) else Nx H3)
section
variable {Y : Cx} {elt tg iter : Expr} {ifs : List Expr} {scope : Scope} {pos : Pos} {g : TG} {tt : TT} {te : TE} {J : It} {fp : List Addr} {it D : Addr} {tn : Nat → Heap → Prop} {vs : List Nat} {σ : L2.St} {W : Nat → Nat → Hp → Prop} {E : Hp → Prop} {R : Result → Shared → Prop}
theorem KeepB.fpOk {H : Hp} {t : Shared} {σ : L2.St} (I : Inv Y [] σ H t) (hex : ∀ b ∈ fp, b ∈ Y.ex) (hpn : Y.pn = []) (n : ∀ b ∈ fp, H b = none) : ∀ b ∈ fp, FpOk Y [] H b := by
  intro b hb
  have h1 := I.ok.exf b (hex b hb)
  refine ⟨n b hb, h1.1, I.ok.exfs b (hex b hb), .inl (hex b hb), fun x c e => h1.2 x c e, fun p hp => ?_⟩
  rw [hpn] at hp
  cases hp
/-- a turn's end -/
theorem KeepB.next {n i : Nat} {t u : Shared} {σ2 : L2.St} {H : Hp} {Nx : Hp → Prop} (T : Turn Y.prog Y.w Y.K tg J fp it tn) (hpn : Y.pn = []) (ti : tn (i + 1) u.heap) (hN : ∀ H', Nx H' → ∃ m', m' < n ∧ W (i + 1) m' H') (ew : L2.wipe σ2 vs = L2.wipe σ vs)
    (I : Inv Y ([] ++ pinsAt fp u.heap) σ2 H t) (nx : Nx H) : ∃ m, m < n ∧ KeepB Y (L2.wipe σ vs) tn fp W m t := by
  obtain ⟨m, hm, w⟩ := hN H nx
  have at1 : ∀ b ∈ fp, ∀ o, u.heap.get? b = some o → t.heap.get? b = some o ∧ H b = none := fun b hb o e => by
    have z := I.pin (b, o) (by rw [hpn, List.nil_append, List.nil_append]; exact mem_pinsAt hb e)
    exact ⟨z.1, z.2.1⟩
  refine ⟨m, hm, i + 1, H, ?_, T.keep _ _ _ ti fun b hb o e => (at1 b hb o e).1, fun b hb => ?_, w⟩
  · rw [← ew]
    exact (I.unpinned (pins := [])).weak (wipe_length ..) fun j v e => (wipe_some e).1
  · obtain ⟨o, e, _⟩ := T.obj _ _ ti b hb
    exact (at1 b hb o e).2
theorem loop_tok (T : Turn Y.prog Y.w Y.K tg J fp it tn) (hc : Y.calm = true) (hex : ∀ b ∈ fp, b ∈ Y.ex) (hpn : Y.pn = []) (hxe : Y.xe = fun _ _ => False) (pg : PG Y tg g) (pt : PTs Y ifs tt) (pe : PE Y elt te) (hW : TurnsB J g tt te vs σ D W E)
    (fin : ∀ H t, Inv Y [] (L2.wipe σ vs) H t → E H → R (.ok .next) t) {m : Nat} {s : Shared} (h : KeepB Y (L2.wipe σ vs) tn fp W m s) :
    codeAny (model Y.prog Y.w) Y.A (.compLoop (.ListComp elt [⟨tg, iter, ifs, 0⟩] scope pos) 0 (.ref it) (.ref D) Y.env) R s := by
  refine compLoop_any (KeepB Y (L2.wipe σ vs) tn fp W) ?_ m h
  rintro n t ⟨i, H, I, ti, nf, w⟩
  have ok1 := KeepB.fpOk I hex hpn nf
  rcases hW i n H w with ⟨st, q⟩ | ⟨go, Nx, hN, step⟩
  · refine thnF (T.done Y rfl rfl rfl hc i [] t _ H (fun _ _ => False) I ok1 ti st) fun r t1 q1 => ?_
    rw [q1.1]
    exact fin H t1 q1.2 q
  · refine thnF (T.item Y rfl rfl rfl hc i [] t _ H (fun _ _ => False) I ok1 ti go) fun r t1 q1 => ?_
    obtain ⟨u, rfl, h1⟩ := q1
    refine thnF h1 fun _ t2 q2 => ?_
    obtain ⟨x, H2, I2, rx, yx, ti2, nf2⟩ := q2
    have ok2 := KeepB.fpOk I2 hex hpn nf2
    have pg1 := pg.run _ t2 _ H2 x u _ (I2.pinned ok2 (T.obj _ _ ti2)) rx (step x H2 yx)
    rw [hxe] at pg1
    refine thnF pg1 fun _ t3 q3 => ?_
    obtain ⟨σ3, H3, I3, ew, q3⟩ := q3
    have pt1 := pt.run _ t3 σ3 H3 _ I3 q3
    rw [hxe] at pt1
    refine thnF pt1 fun b t4 q4 => ?_
    obtain ⟨H4, I4, q4⟩ := q4
    by_cases hb : b = true
    · rw [if_pos hb] at q4 ⊢
      have pe1 := pe.run _ t4 σ3 H4 _ I4 q4
      rw [hxe] at pe1
      refine thnF pe1 fun z t5 q5 => ?_
      obtain ⟨y, H5, I5, ry, acc, hD, hz, nx⟩ := q5
      exact app_ok (X := Y) I5 hD hz ry fun t6 I6 => KeepB.next T hpn ti2 hN ew I6 nx
    · rw [if_neg hb] at q4 ⊢
      exact KeepB.next T hpn ti2 hN ew I4 q4
end
section
variable {X : Cx} {elt tg iter : Expr} {ifs : List Expr} {scope : Scope} {own : List (Str × Nat)} {pos : Pos} {wi : TI} {g : TG} {tt : TT} {te : TE}
theorem pet_lc (hc : X.calm = true) (hN : X.N.Nodup) (hi : PIT X tg iter wi) (ok : BlkOk X.N X.env.scope scope own)
    (hg : ∀ s H C cl fp, PG (X.blk s H scope (compEnvC scope cl C X.env) fp) tg g) (ht : ∀ s H C cl fp, PTs (X.blk s H scope (compEnvC scope cl C X.env) fp) ifs tt)
    (he : ∀ s H C cl fp, PE (X.blk s H scope (compEnvC scope cl C X.env) fp) elt te) (hs : ∀ x, foldedSetIterable iter X.env x = pure x := by intro _; rfl) :
    PET X (.ListComp elt [⟨tg, iter, ifs, 0⟩] scope pos) (tLc wi g tt te (own.map (·.2))) := by
  intro pins s σ H Q h0 I h
  rw [eval_ListComp]
  have hcl : ∀ y ∈ scope.names, y.2 = .free → ∃ c, X.env.cells.lookup y.1 = some c := fun y hy e => I.ok.has _ (ok.free y hy e)
  refine wpAny_comprehension_free (use := none) rfl hs (closure_ok hcl) ok.kind (fun y hy e => by rw [ok.uniq y hy, e]) ?_
  refine thn (hi pins s σ H _ h0 I h) fun v s1 h1 => thn h1 fun w s2 h2 => ?_
  obtain ⟨it, fp, tn, J, H2, rfl, I2, T, st, fo, q⟩ := h2
  have z0 : 0 ≤ sizeLine := by decide
  refine wpAny_newObj_type (newEnv_comp ?_) z0
  -- the new list stands at the heap's end
  have nD : H2 s2.heap.objs.size = none := I2.hok.fresh (Nat.le_refl _)
  obtain ⟨W, ⟨m, w0⟩, hW⟩ := q _ nD
  have IL : Inv X pins σ (upd H2 s2.heap.objs.size (.lst [])) { s2 with heap := s2.heap.push { cls := .type "list", data := .seq ([] : List Value).toArray } } :=
    I2.laid (t' := s2.toks) (fun b o e => Heap.get?_push_of_some _ e) (Nat.le_refl _) ⟨Nat.zero_le _, [], 0, .nil, Heap.get?_push_size _ rfl⟩
  have lt : ∀ b ∈ fp, b < s2.heap.objs.size := fun b hb => (T.obj _ _ st b hb).elim fun o z => Heap.lt_size z.1
  have fo2 : ∀ b ∈ fp, FpOk X pins (upd H2 s2.heap.objs.size (.lst [])) b ∧ b < (s2.heap.push { cls := .type "list", data := .seq ([] : List Value).toArray }).objs.size := fun b hb =>
    ⟨⟨by rw [upd_ne (Nat.ne_of_lt (lt b hb))]; exact (fo b hb).1, (fo b hb).2⟩, by rw [Heap.size_push]; exact Nat.lt_succ_of_lt (lt b hb)⟩
  have st2 := T.keep _ _ (s2.heap.push { cls := .type "list", data := .seq ([] : List Value).toArray }) st fun b _ o e => Heap.get?_push_of_some _ e
  generalize hs3 : ({ s2 with heap := s2.heap.push { cls := .type "list", data := .seq ([] : List Value).toArray } } : Shared) = s3 at IL
  have hh3 : s2.heap.push { cls := .type "list", data := .seq ([] : List Value).toArray } = s3.heap := by rw [← hs3]
  rw [hh3] at fo2 st2
  generalize s2.heap.objs.size = D at *
  generalize upd H2 D (.lst []) = H3 at *
  have IB := block_start IL ok hN fo2
  have pg := hg s3 H3 s3.heap.objs.size (cellsFrom (s3.heap.objs.size + 1) scope.names (cloFrom X.env.cells scope.names [])) fp
  have pt := ht s3 H3 s3.heap.objs.size (cellsFrom (s3.heap.objs.size + 1) scope.names (cloFrom X.env.cells scope.names [])) fp
  have pe := he s3 H3 s3.heap.objs.size (cellsFrom (s3.heap.objs.size + 1) scope.names (cloFrom X.env.cells scope.names [])) fp
  have st3 := T.keep _ _ (pushCells (s3.heap.push { cls := .type "dict", data := .dict #[] }) scope.names) st2 fun b _ o e => pushCells_keeps _ _ _ _ (Heap.get?_push_of_some _ e)
  have ce : (compEnvC scope (cellsFrom (s3.heap.objs.size + 1) scope.names (cloFrom X.env.cells scope.names [])) s3.heap.objs.size X.env).locals = s3.heap.objs.size := rfl
  have goalE : codeAny (model X.prog X.w) X.A (.compStart (.ListComp elt [⟨tg, iter, ifs, 0⟩] scope pos) 0 (.ref it) (.ref D) (compEnvC scope (cellsFrom (s3.heap.objs.size + 1) scope.names (cloFrom X.env.cells scope.names [])) s3.heap.objs.size X.env))
      (compPost (model X.prog X.w) X.A X.xe none (EP X pins σ Q) (.ref D) s3.heap.objs.size) { s3 with heap := pushCells (s3.heap.push { cls := .type "dict", data := .dict #[] }) scope.names } := by
    generalize compEnvC scope (cellsFrom (s3.heap.objs.size + 1) scope.names (cloFrom X.env.cells scope.names [])) s3.heap.objs.size X.env = ev at *
    suffices L : codeAny (model X.prog X.w) X.A (.compLoop (.ListComp elt [⟨tg, iter, ifs, 0⟩] scope pos) 0 (.ref it) (.ref D) ev)
        (compPost (model X.prog X.w) X.A X.xe none (EP X pins σ Q) (.ref D) s3.heap.objs.size) { s3 with heap := pushCells (s3.heap.push { cls := .type "dict", data := .dict #[] }) scope.names } from
      codeAny_compStart_list L (T.self X.A 0 _ _ _ st3 L)
    refine loop_tok (Y := X.blk s3 H3 scope ev fp) (σ := σ) (vs := own.map (·.2)) (W := W) (E := fun H => Q (.ref D) H) T hc (fun b hb => hb) rfl rfl pg pt pe hW (fun H t I5 q5 => ?_) ⟨0, H3, IB, st3, fun b hb => (fo2 b hb).1.1, w0⟩
    have I6 : Inv X pins σ H t := IL.call' (ch := fp) I5.os I5.base I5.hok I5.bare fun b hb =>
      let z := (fo2 b hb).1
      ⟨z.2.2.2.1, z.2.1, z.2.2.2.2.1, z.2.2.2.2.2⟩
    have nC : H s3.heap.objs.size = none := by rw [← ce]; exact I5.free
    obtain ⟨m5, hn, _⟩ := I5.loc
    refine ⟨m5, by rw [← ce]; exact hn, fun h6 sb => ?_⟩
    obtain ⟨f0, f1, f2, f3, f4, f5⟩ := IL.fpOk (Nat.le_refl _) nC
    exact ⟨.ref D, H, I6.turned (t' := t.toks) (fun b o hb e => (sb.2 b hb).trans e) f0 f1 f3 f4 f5, rfl, q5⟩
  subst hs3
  exact goalE
end
/-! ### the same over data -/
/-- behind e a token is out -/
def PE1 (X : Cx) (e : Expr) (t : TE) : Prop := ∀ (pins : List (Addr × Obj)) (s : Shared) (σ : L2.St) (H : Hp) (Q : VK), Inv X pins σ H s → t σ H Q → wpAny (model X.prog X.w) X.A (eval e X.env) (fun v s' => 1 ≤ s'.toks ∧ EP X pins σ Q v s') X.xe s
def iterL (f : DE) : DI := fun env => (f env).bind fun p => match p.1.d with
  | .lst ds => .ok (ds, p.2)
  | _ => .no
section
variable {X : Cx} {C : Cd} {a b e : Expr} {f fa fb : DE} {pos : Pos}
theorem qe_opT {op : Operator} {r : R2} {g : D → D → Option Sl} (ho : OpR X (binaryOp op) r) (ok : OpOk C r g) (ha : PE1 X a (tDz C fa)) (hb : PET X b (tDz C fb)) : PE X (.BinOp a op b pos) (tD C (lift2 g fa fb)) :=
  ⟨fun pins s σ H Q I h => wpAny_BinOp (thn (ha pins s σ H _ I (t_op ok h)) fun v s1 q1 =>
    let ⟨hk, x, H1, I1, r1, q1⟩ := q1
    thn (hb pins s1 σ H1 _ hk I1 q1) fun u s2 q2 =>
      let ⟨y, H2, I2, r2, q2⟩ := q2
      ho pins s2 σ H2 x y v u Q I2 r1 r2 q2)⟩
theorem q1_lst0 {i : Int} {j : Nat} {p pl : Pos} : PE1 X (.List [.Constant (.int i) j p] pl) (tDz C (lstD [conD (.int i)])) := by
  intro pins s σ H Q I h
  have h := t_lst (fs := [conD (.int i)]) (show 1 ≤ sizeLine by decide) (tz_t h)
  refine wpAny_List_spliced (thn (qa1_int qa_nil rfl pl pins s σ H _ I h) fun us s1 q1 => ?_)
  obtain ⟨hk, xs, H1, I1, r, z, q⟩ := q1
  refine ⟨by rw [← r.length]; exact z, hk, .ref s1.heap.objs.size, upd H1 s1.heap.objs.size (.lst xs), ?_, rfl, q _ (I1.hok.fresh (Nat.le_refl _))⟩
  exact I1.laid (t' := s1.toks) (fun b u e => Heap.get?_push_of_some _ e) (Nat.le_refl _) ⟨z, us, 0, r, Heap.get?_push_size _ rfl⟩
theorem qzT (h : PET X e (tD C f)) : PET X e (tDz C f) := fun pins s σ H Q h0 I ⟨F, env, I0, w⟩ => h pins s σ H Q h0 I ⟨F, env, I0, w.froz⟩
theorem qit_list {tg : Expr} (ft : Fit X C) (h : PET X e (tD C f)) : PIT X tg e (tDI C (iterL f)) := by
  intro pins s σ H RR h0 I ⟨F, env, I0, h1⟩
  have q := pit_list (tg := tg) (qzT h)
  rw [ft.k] at q
  refine q pins s σ H RR h0 I ⟨F, env, I0, ?_⟩
  unfold iterL at h1
  cases ef : f env with
  | no => rw [ef] at h1; exact h1.elim
  | er c fs z => rw [ef] at h1; exact h1
  | ok p =>
    rw [ef] at h1
    simp only [R.bind_ok] at h1
    cases ed : p.1.d with
    | lst ds =>
      simp only [ed] at h1
      intro F' H' I' s' x rx
      rw [ed] at rx
      obtain ⟨a, xs, rfl, ha, hx⟩ := rx.lst
      exact ⟨a, rfl, ⟨xs, .inl (.inl (I'.fh _ _ ha))⟩, h1 F' H' I' s' _ (it_list (.inl (.inl ha)) hx)⟩
    | _ => simp only [ed] at h1; exact h1.elim
end
section
variable {X : Cx} {C : Cd} {elt tg iter : Expr} {ifs : List Expr} {scope : Scope} {own : List (Str × Nat)} {pos : Pos} {fi : DI} {gg : DG} {tt : DT} {te : DE} {ts zs : List Nat}
theorem qet_lc (hc : X.calm = true) (hN : X.N.Nodup) (hi : PIT X tg iter (tDI C fi)) (ok : BlkOk X.N X.env.scope scope own)
    (hg : ∀ s H A cl fp C', Gnd C C' → PG (X.blk s H scope (compEnvC scope cl A X.env) fp) tg (tDG C' ts gg)) (ht : ∀ s H A cl fp C', Gnd C C' → PTs (X.blk s H scope (compEnvC scope cl A X.env) fp) ifs (tDT C' tt))
    (he : ∀ s H A cl fp C', Gnd C C' → PE (X.blk s H scope (compEnvC scope cl A X.env) fp) elt (tD C' te)) (hts : ∀ i ∈ ts, i ∈ own.map (·.2) := by decide) (hs : ∀ x, foldedSetIterable iter X.env x = pure x := by intro _; rfl) :
    PET X (.ListComp elt [⟨tg, iter, ifs, 0⟩] scope pos) (tD C (compD fi gg tt te (own.map (·.2)) zs)) := fun pins s σ H Q h0 I h =>
  pet_lc hc hN hi ok (fun s H A cl fp => PG.ex (hg s H A cl fp)) (fun s H A cl fp => PTs.ex (ht s H A cl fp)) (fun s H A cl fp => PE.ex (he s H A cl fp)) hs pins s σ H Q h0 I (t_lc hts h)
end
section
variable {env : DEnv} {X : Str → DEnv → Prop} {f : DE}
theorem e_iterL {Q : List D × DEnv → Prop} : wE (iterL f env) Q X kq kq = wE (f env) (fun p => lsQ p.1.d (fun ds => Q (ds, p.2)) kq) X kq kq := by
  unfold iterL
  rw [x_bind]
  refine wR_cg fun p => ?_
  cases p.1.d <;> rfl
end
end Dd

namespace Dd
open PySem PySem.Spec PyProof.Rows L2
/-! ### e or f by truth, as a value -/
def truD : D → Option Bool
  | .non => some false
  | .int i => some (i != 0)
  | .bl b => some b
  | _ => none
def orX (fa fb : DE) : DE := fun env => (fa env).bind fun p => match truD p.1.d with
  | some true => .ok (.frz p.1.d, p.2)
  | some false => fb p.2
  | none => .no
section
variable {X : Cx} {C : Cd} {a b : Expr} {rest : List Expr} {pos : Pos} {fa fb : DE}
theorem tru_rep {F H : Hp} {d : D} {k : Bool} {v : V} (e : truD d = some k) (r : Rep C.K C.mg F d v) : TruV X.K v H k := by
  cases d with
  | non => cases e; rw [r.non]; exact rfl
  | int i => cases e; rw [r.int]; exact rfl
  | bl b => cases e; rw [r.bl]; exact rfl
  | _ => cases e
theorem qe_orX (h : PE X a (tD C fa)) (h2 : PE X (.BoolOp .Or (b :: rest) pos) (tD C fb)) : PE X (.BoolOp .Or (a :: b :: rest) pos) (tD C (orX fa fb)) :=
  PE.weak (pe_orT (qz h) h2) fun σ H Q ⟨F, env, I, h⟩ => ⟨F, env, I, (Fin.bnd h).imp fun s e F1 H1 I1 s1 h1 x rx => by
    cases et : truD s.d with
    | none => simp only [et] at h1; exact h1.elim
    | some k =>
      simp only [et] at h1
      refine ⟨k, tru_rep et rx, ?_⟩
      cases k with
      | true => exact iteT (Fin.val h1 I1 rx)
      | false => exact iteF ⟨F1, e, I1, h1⟩⟩
end
section
variable {env : DEnv} {X : Str → DEnv → Prop} {fa fb : DE}
theorem e_orX {Q : Sl × DEnv → Prop} : wE (orX fa fb env) Q X kq kq = wE (fa env) (fun p => oQ (truD p.1.d) (fun b => iQ b (Q (.frz p.1.d, p.2)) (wE (fb p.2) Q X kq kq) kq kq) kq) X kq kq := by
  unfold orX
  rw [x_bind]
  refine wR_cg fun p => ?_
  cases truD p.1.d with
  | none => rfl
  | some b => cases b <;> rfl
theorem tru_n : truD .non = some false := rfl
theorem tru_i {i : Int} : truD (.int i) = some (i != 0) := rfl
theorem tru_b {b : Bool} : truD (.bl b) = some b := rfl
end
end Dd

namespace Dd
open PySem PySem.Spec PyProof.Rows L2
/-! ### an __init__ that may raise; C(k = v, ..) within a def that may raise -/
def outBX (r : R DEnv Out) : R (List D) (Sl × List D) := match r with
  | .er c fs _ => .er c fs []
  | .ok o => outB (.ok o)
  | .no => .no
def bodyBX (n : Nat) (g : DS) : DF := fun ds => outBX (g (envB n ds))
def spBX (K : PySem.W.Frag) (mg : Str → Option Value) (n : Nat) (g : DF) : Sp := fun vs H Q E => vs.length = n ∧ ∃ F d0 ds p vr, vs = .ref p :: vr ∧ Same F H ∧ F p = none ∧ Own K mg F H d0 p ∧ RepL K mg F ds vr ∧
  match g (d0 :: ds) with
  | .ok (s, [d]) => ∀ v F' H', ExtB p F H F' H' → F' p = none → Own K mg F' H' d p → ResO K mg F' H' H s v → Q v H'
  | .er c fs _ => ∀ x F' H', ExtB p F H F' H' → ErO K mg F' fs x → E (.ref (clsA mg c)) x H'
  | _ => False
theorem fin_outBX {K : PySem.W.Frag} {mg : Str → Option Value} {F H : Hp} {p : Addr} {r : R DEnv Out} {Q : VK} {E : XK}
    (h : match outBX r with
      | .ok (s, [d]) => ∀ v F' H', ExtB p F H F' H' → F' p = none → Own K mg F' H' d p → ResO K mg F' H' H s v → Q v H'
      | .er c fs _ => ∀ x F' H', ExtB p F H F' H' → ErO K mg F' fs x → E (.ref (clsA mg c)) x H'
      | _ => False) : FinS ⟨K, mg, F, H, fun q => q = p, WD E, 0, "", true⟩ F r { nx := fun _ H' => Q .non H', rt := Q } := by
  cases r with
  | no => exact h
  | er c fs z => exact ⟨rfl, fun x σ F' H' I s k => h x F' H' ⟨I.f0, I.fh, fun a o h n => I.fr a o h n, I.nf⟩ k⟩
  | ok o =>
    have h : match outB (.ok o) with
      | .ok (s, [d]) => ∀ v F' H', ExtB p F H F' H' → F' p = none → Own K mg F' H' d p → ResO K mg F' H' H s v → Q v H'
      | .er c fs _ => ∀ x F' H', ExtB p F H F' H' → ErO K mg F' fs x → E (.ref (clsA mg c)) x H'
      | _ => False := h
    cases o with
    | nx z =>
      unfold outB at h
      cases e0 : z[0]? with
      | none => simp only [e0] at h
      | some q =>
        cases q with
        | none => simp only [e0] at h
        | some q =>
          cases q with
          | bor d =>
            simp only [e0] at h
            intro σ F' H' I s
            obtain ⟨x1, x2, x3⟩ := I.endB (vs := []) e0
            exact h _ F' H' x1 x2 x3 (show Rep K mg F' .non .non from rNon)
          | frz d => simp only [e0] at h
          | exn c => simp only [e0] at h
          | own d => simp only [e0] at h
    | rt t z =>
      unfold outB at h
      cases e0 : z[0]? with
      | none => simp only [e0] at h
      | some q =>
        cases q with
        | none => simp only [e0] at h
        | some q =>
          cases q with
          | bor d =>
            simp only [e0] at h
            intro v σ F' H' I s r
            obtain ⟨x1, x2, x3⟩ := I.endB (vs := []) e0
            exact h _ F' H' x1 x2 x3 r.out
          | frz d => simp only [e0] at h
          | exn c => simp only [e0] at h
          | own d => simp only [e0] at h
    | bk z => exact h.elim
    | ct z => exact h.elim
theorem InitD.okBX {P : Program} {w : World} {K : PySem.W.Frag} {mg : Str → Option Value} {base : Heap} {x qual : Str} {st : Stmt} {kws : List (Str × V)} {N ps : List Str} {k : Nat} {g : DS} (D : InitD K mg x qual st kws) (hg : mg x = some (.ref (clsA mg x))) (S : FnScope N ps (defScope st)) (hN : 0 < N.length)
    (hb : ∀ (f : Addr) (cdv : Value) (A : Around) (outer : List Env) (s : Shared) (H : Hp) (E : XK) (F : Hp) (p : Addr), Room k (A.deeper (envOfC qual (defScope st) s.heap.objs.size f cdv)) → Fit (cxOf (L2.CX P w) P w K mg base N qual (defScope st) f cdv A outer s H E) ⟨K, mg, F, H, fun q => q = p, WD E, 0, "", true⟩ →
      PSs (cxOf (L2.CX P w) P w K mg base N qual (defScope st) f cdv A outer s H E) (defBody st) (tDS ⟨K, mg, F, H, fun q => q = p, WD E, 0, "", true⟩ g)) : OkC P w K mg base (L2.CX P w) x qual st (k + 1) ps kws (spBX K mg ps.length (bodyBX N.length g)) := by
  obtain ⟨f, fd, M, F⟩ := D
  refine ⟨f, fd, M, F, F.ok S (fun vs H Q E h => h.1) (fun cdv A outer s H vs Q E hr h => ?_), hg⟩
  obtain ⟨hl, Fz, d0, ds, p, vr, rfl, sm, nF, ow, r, h⟩ := h
  refine ⟨_, hb f cdv A outer s H E Fz p hr ⟨rfl, rfl⟩, Fz, _, In.startB hN sm nF ow r, fin_outBX h⟩
theorem pass_of {X : Cx} {E : XK} (tk : Takes X (WD E)) : Passes (L2.CX X.prog X.w) X E := fun _ _ _ _ e s' I c => tk e s' (XE.of_call I (fun _ _ _ h => h) c)
theorem with_tk {X : Cx} {C : Cd} {ss : List Stmt} {g : DS} (h : Takes X C.W → PSs X ss (tDS C g)) (tk : Takes X C.W) : PSs X ss (tDS C g) := h tk
def newDX (g : DF) (c : Str) (ds : List D) (env : DEnv) : R DEnv (Sl × DEnv) := match g (.obj c [] [] :: ds) with
  | .ok (.frz .non, [d]) => .ok (.own d, env)
  | .er e fs _ => .er e fs env
  | _ => .no
def makeKXD (g : DF) (c : Str) (pk : List D → List D) (kfs : List DE) : DE := fun env => (argsD kfs env).bind fun q => newDX g c (pk q.1) q.2
section
variable {C : Cd} {E : XK}
theorem In.goneN {F H F' H' : Hp} {σ : L2.St} {env : DEnv} (I : In C F H σ env) {p : Addr} (n0 : C.H0 p = .none) (ne : ∀ (i : Nat) (s : Sl), env[i]? = some (some s) → s.mut = true → σ[i]? ≠ some (some (.ref p))) (nb : ¬ C.B p) (x : ExtB p F H F' H') : In C F' H' σ env := by
  have free : ∀ q o, F q = Option.none → H q = some o → F' q = Option.none := fun q o h1 h2 => by
    cases e : F' q with
    | none => rfl
    | some z =>
      rcases x.nf q z e with h | h
      · rw [h1] at h; cases h
      · rw [h2] at h; cases h
  refine ⟨I.f0.trans x.ff, x.fh, fun a z h hb => ?_, fun a z h => ?_, I.len, fun j t hj => ?_, I.ds, fun q hq => ?_⟩
  · exact x.hh _ _ (I.fr a z h hb) fun e => by rw [e, n0] at h; cases h
  · rcases x.nf a z h with h | h
    · exact I.nf a z h
    · exact .inr (I.none0 h)
  · obtain ⟨v, ev, hs⟩ := I.sl j t hj
    refine ⟨v, ev, ?_⟩
    cases t with
    | frz d => exact Rep.mono x.ff hs
    | exn c => exact hs
    | own d =>
      obtain ⟨q, e1, h1, h2, h3⟩ := hs
      obtain ⟨w, hw⟩ := h3.some
      exact ⟨q, e1, free q w h1 hw, h2, h3.keep x.ff fun o h => x.hh _ _ h fun z => ne j _ hj rfl (by rw [ev, e1, z])⟩
    | bor d =>
      obtain ⟨q, e1, h1, h2, h3⟩ := hs
      obtain ⟨w, hw⟩ := h3.some
      exact ⟨q, e1, free q w h1 hw, h2, h3.keep x.ff fun o h => x.hh _ _ h fun z => ne j _ hj rfl (by rw [ev, e1, z])⟩
  · cases eh : H q with
    | none => exact absurd eh (I.bs q hq)
    | some z => rw [x.hh _ _ eh fun e => nb (e ▸ hq)]; exact fun z => nomatch z
theorem new_ofX {F H : Hp} {σ : L2.St} {env : DEnv} {Q : VK} {vs : List V} {ds : List D} {n : Nat} {g : DF} {c : Str} (hW : C.W = WD E) (I : In C F H σ env) (rv : RepL C.K C.mg F ds vs) (hn : (vs.length + 1) = n)
    (h : Fin C F σ (newDX g c ds env) fun s e F' H' => ∀ v, Res C F' H' e σ s v → Q v H') : ∀ y dx, H y = none → H dx = none → dx ≠ y → spBX C.K C.mg n g (.ref y :: vs) (upd (upd H dx (.own y)) y (.ins (clsA C.mg c) dx [])) (fun v H2 => v = .non ∧ Q (.ref y) H2) E := by
  intro y dx ny nd ne
  have I1 := I.alloc (o := .own y) nd
  have ny1 : upd H dx (.own y) y = none := by rw [upd_ne (Ne.symm ne)]; exact ny
  have I2 := I1.fresh (o := .ins (clsA C.mg c) dx []) ny1
  have s1 := I.same (o := .own y) nd
  refine ⟨by simpa using hn, upd F dx (.own y), .obj c [] [], ds, y, vs, rfl, I2.fh, I1.none ny1, ⟨dx, [], upd_same, rfl, repNil⟩, rv.mono s1, ?_⟩
  unfold newDX at h
  cases eg : g (.obj c [] [] :: ds) with
  | no => simp only [eg] at h; exact h.elim
  | er a b z =>
    simp only [eg] at h
    intro x F' H' xt er
    have h2 := h.2 x F' H' (In.goneN I2 (I.none0 ny) (I1.slotNe ny1) (fun hb => I.bs y hb ny) xt) (s1.trans xt.ff) er
    rw [hW] at h2
    exact h2
  | ok r =>
    obtain ⟨s, l⟩ := r
    cases s with
    | frz d0 =>
      cases d0 with
      | non =>
        match l with
        | [d] =>
          simp only [eg] at h
          intro v F' H' x nF o rs
          obtain ⟨I3, fr⟩ := In.callN I2 (I.none0 ny) (I1.slotNe ny1) (fun hb => I.bs y hb ny) x nF o
          have rs : Rep C.K C.mg F' .non v := rs
          exact ⟨rs.non, h F' H' I3 (s1.trans x.ff) _ ⟨y, rfl, fr⟩⟩
        | [] => simp only [eg] at h; exact h.elim
        | _ :: _ :: _ => simp only [eg] at h; exact h.elim
      | _ => simp only [eg] at h; exact h.elim
    | _ => simp only [eg] at h; exact h.elim
variable {X : Cx} {x qual : Str} {st : Stmt} {ps ks kwo : List Str} {is : List (Option Nat)} {k : Nat} {kws : List (Str × V)} {dv : List V} {dfs : List D} {g : DF} {kfs : List DE} {kk : List Keyword} {p pos : Pos}
theorem qe_makeKX (ft : Fit X C) (hW : C.W = WD E) (tk : Takes X C.W) (O : OkC X.prog X.w X.K X.mg X.base (L2.CX X.prog X.w) x qual st k ps kws (spBX X.K X.mg ps.length g)) (S : ShapeF st ["self"] kwo ks is) (hr : Room (k + 1) X.A) (hg : Gl X x) (hkw : PK X kk (tDA C kfs)) (hd : dv.length = kwo.length) (hm : ∀ q ∈ kwo.zip dv, posOf ks q.1 = none → q ∈ kws) (hdf0 : ∀ F, RepL X.K X.mg F dfs dv)
    (hnk : kfs.length = ks.length := by rfl) (hni : is.length = dfs.length := by rfl) (hps : ps = ("self" : Str) :: kwo := by rfl) (hk : kws ≠ [] := by exact fun z => by cases z)
    (hall : (backToKw pos (keywordEach kk X.env)).all (·.1.isSome) = true := by rfl) (hks : (backToKw pos (keywordEach kk X.env)).filterMap (·.1) = ks := by rfl) (hdb : (x == ("__debug__" : Str)) = false := by decide)
    (hpl : ((backTo pos (starEach [] X.env)).any (·.1) || (backToKw pos (keywordEach kk X.env)).any (·.1.isNone)) = false := by rfl) :
    PE X (.Call (.Name x p) [] kk pos) (tD C (makeKXD g x (fun zs => fill is dfs zs) kfs)) := by
  have hdf : ∀ F, RepL C.K C.mg F dfs dv := by rw [← ft.k, ← ft.m]; exact hdf0
  have q : PE X (.Call (.Name x p) [] kk pos) (tMakeK (clsA X.mg x) 0 ks.length (spBX X.K X.mg ps.length g) (fun vs zs => vs ++ fill is dv zs) E tNil (tDA C kfs)) := by
    obtain ⟨f, fd, M, F, G, m⟩ := O
    obtain ⟨ds, kb⟩ := funD_kbn F S hps hk hd hm
    exact pe_makeK0 M G hr hg m kb (pass_of (by rw [← hW]; exact tk)) hkw hall hks hdb hpl
  rw [ft.k, ft.m] at q
  refine PE.weak q fun σ H Q ⟨F, env, I, h⟩ => ?_
  show tDA C kfs σ H fun zs H2 => _
  unfold makeKXD at h
  refine ⟨F, env, I, ?_⟩
  cases ea : argsD kfs env with
  | no => rw [ea] at h; exact h
  | er c fs z => rw [ea] at h; exact h
  | ok r =>
    rw [ea] at h
    simp only [R.bind_ok] at h
    intro F1 H1 I1 s1 vs rv
    have hdl := (hdf F).len
    refine ⟨rfl, by rw [rv.len, argsD_len ea, hnk], ?_⟩
    have rf : RepL C.K C.mg F1 (fill is dfs r.1) (fill is dv vs) := rep_fill rv is (hdf F1)
    refine new_ofX hW I1 rf ?_ (Fin.le s1 h)
    show (fill is dv vs).length + 1 = ps.length
    rw [rf.len, fill_len hni, ← hdl, hd, hps]
    rfl
end
section
variable {env : DEnv} {X : Str → DEnv → Prop} {Q : Sl × DEnv → Prop}
theorem e_newX {g : DF} {c : Str} {ds : List D} : wE (newDX g c ds env) Q X kq kq = wE (g (.obj c [] [] :: ds)) (fun r => nwQ r (fun d => Q (.own d, env)) kq) (fun e _ => X e env) kq kq := by
  unfold newDX
  cases g (.obj c [] [] :: ds) with
  | no => rfl
  | er c fs z => cases fs <;> rfl
  | ok q =>
    obtain ⟨r, l⟩ := q
    match r, l with
    | .own _, l => rfl
    | .bor _, l => rfl
    | .exn _, l => rfl
    | .frz d, l =>
      match d, l with
      | .non, [] => rfl
      | .non, [d] => rfl
      | .non, _ :: _ :: _ => rfl
      | .bl _, _ | .int _, _ | .str _, _ | .lst _, _ | .tup _, _ | .scr _, _ | .ty _, _ | .cls _, _ | .dK _ _, _ | .dT _ _, _ | .obj _ _ _, _ => rfl
theorem e_makeKX {g : DF} {c : Str} {pk : List D → List D} {kfs : List DE} : wE (makeKXD g c pk kfs env) Q X kq kq = wE (argsD kfs env) (fun q => eQ (pk q.1) (fun ds => wE (newDX g c ds q.2) Q X kq kq) kq) X kq kq := by
  unfold makeKXD
  rw [x_bind]
  rfl
end
end Dd

namespace Dd
open PySem PySem.Spec PyProof.Rows L2 L2H HotX
/-! ### the same where the context of what is raised is known to be None -/
theorem takes0N {X : Cx} : L2N.Takes X (fun _ _ _ _ => False) := fun _ _ x => by
  obtain ⟨_, _, _, _, _, _, _, _, _, _, _, _, _, _, _, _, z⟩ := x
  exact z.elim
section
variable {P : Program} {w : World} {K : PySem.W.Frag} {mg : Str → Option Value} {base : Heap} {x : Str} {st : Stmt} {ps N : List Str} {k : Nat} {g : DS}
theorem funOkN {f : Addr} {fd : FuncData} {sp : Sp} (F : Fun K x x st f fd) (S : FnScope N ps (defScope st)) (len : ∀ vs H Q E, sp vs H Q E → vs.length = ps.length)
    (hb : ∀ (cdv : Value) (A : Around) (outer : List Env) (s : Shared) (H : Hp) (vs : List V) (Q : VK) (E : XK), Room k (A.deeper (envOfC x (defScope st) s.heap.objs.size f cdv)) → sp vs H Q E →
      ∃ t, PSs (cxOf (L2N.CX P w) P w K mg base N x (defScope st) f cdv A outer s H E) (defBody st) t ∧ t { nx := fun _ H' => Q .non H', rt := Q } (L2.start N vs) H) : FnOk P w K mg base (L2N.CX P w) (k + 1) f fd ps sp := by
  obtain ⟨oc, od, kV, doc, pm, an, cdv, ct, osl, rfl, lk, hcd⟩ := F.ex
  exact fn_of lk hcd S len fun A outer s H vs Q E hr h => hb cdv A outer s H vs Q E hr h
theorem Has.okDXN (D : Has K mg x st ps) (S : FnScope N ps (defScope st))
    (hb : ∀ (f : Addr) (cdv : Value) (A : Around) (outer : List Env) (s : Shared) (H : Hp) (E : XK) (F : Hp), Room k (A.deeper (envOfC x (defScope st) s.heap.objs.size f cdv)) → Fit (cxOf (L2N.CX P w) P w K mg base N x (defScope st) f cdv A outer s H E) ⟨K, mg, F, H, fun _ => False, WD E, 0, "", true⟩ →
      PSs (cxOf (L2N.CX P w) P w K mg base N x (defScope st) f cdv A outer s H E) (defBody st) (tDS ⟨K, mg, F, H, fun _ => False, WD E, 0, "", true⟩ g)) : Ok P w K mg base (L2N.CX P w) x st (k + 1) ps (spP K mg ps.length (bodyF N.length g)) := by
  obtain ⟨f, fd, F, gl, b⟩ := D
  refine ⟨f, fd, F, funOkN F S (fun vs H Q E h => h.1) (fun cdv A outer s H vs Q E hr h => ?_), gl, b⟩
  obtain ⟨hl, Fz, ds, sm, r, h⟩ := h
  refine ⟨_, hb f cdv A outer s H E Fz hr ⟨rfl, rfl⟩, Fz, _, In.start sm r, ?_⟩
  unfold bodyF at h
  cases e : g (env0 N.length ds) with
  | no => rw [e] at h; exact h
  | er c fs z => rw [e] at h; exact ⟨rfl, fun x σ F' H' I s k => h x F' H' (I.ext (N := N)) k⟩
  | ok o =>
    rw [e] at h
    cases o with
    | nx z => exact fun σ F' H' I s => h _ F' H' (I.ext (N := N)) (show Rep K mg F' .non .non from rNon)
    | rt s z => exact fun v σ F' H' I _ r => h _ F' H' (I.ext (N := N)) r.out
    | bk z => exact h.elim
    | ct z => exact h.elim
end
section
variable {X : Cx} {C : Cd} {x : Str} {st : Stmt} {ps ks : List Str} {k : Nat} {e : Expr} {es : List Expr} {kws : List Keyword} {p pos : Pos} {g : DF} {fs : List DE}
theorem qe_callXN (ft : Fit X C) (O : Ok X.prog X.w X.K X.mg X.base (L2N.CX X.prog X.w) x st k ps (spP X.K X.mg ps.length g)) (hr : Room k X.A) (hg : Gl X x) (tk : L2N.Takes X C.W) (ha : PA X (e :: es) (tDA C fs)) (hn : fs.length = ps.length := by rfl) (hdb : (x == ("__debug__" : Str)) = false := by decide) (he : starEach (e :: es) X.env = (false, eval e X.env) :: starEach es X.env := by rfl) (hpl : (backTo pos (starEach es X.env)).any (·.1) = false := by rfl) :
    PE X (.Call (.Name x p) (e :: es) [] pos) (tD C (callD g fs)) := by
  obtain ⟨f, fd, F, G, m, b⟩ := O
  refine PE.weak (pe_callS G hr hg m F.kp b (fun σ => L2N.passAt tk σ) ha hdb he hpl) fun σ H Q h => ?_
  have q := t_call hn h
  rw [← ft.k, ← ft.m] at q
  exact q
end
/-- raise C(e) -/
def raiseED (c : Str) (fe : DE) : DS := fun env => bindS (fe env) fun p => .er c [] p.2
section
variable {X : Cx} {C : Cd} {e : Expr} {pos : Pos} {c : Str} {fe : DE}
theorem qs_raiseN {t : L2.St → Hp → XK → Prop} (hc : X.calm = true) (tk : L2N.Takes X C.W) (he : L2N.PMk X e t) (ht : ∀ σ H Q, Q (.ref (clsA C.mg c)) none H → t σ H Q) : PS X (.Raise (some e) none pos) (tDS C (raiseD c)) :=
  PS.weak (L2N.ps_raise hc tk he) fun T σ H ⟨F, env, I, h⟩ => ht σ H _ (h.2 none σ F H I (.refl _) rfl)
theorem qs_raiseE0 {st : Stmt} (hW : C.rz = false) : PS X st (tDS C (raiseED c fe)) := PS.weak ps_never fun T σ H ⟨F, env, I, h⟩ => by
  unfold raiseED at h
  cases ef : fe env with
  | no => rw [ef] at h; exact h.elim
  | er c fs z =>
    rw [ef] at h
    have q := h.1
    rw [hW] at q
    exact nomatch q
  | ok p =>
    rw [ef] at h
    have q := h.1
    rw [hW] at q
    exact nomatch q
theorem pmk_ownN {D : Addr} {bmB : List Value} {B newId initId : String} {x : Str} {e1 : Expr} {ta : TE} {p : Pos} (F : ExcBaseFacts B newId initId bmB) (q : PySem.W.excIn X.K D bmB newId = true) (gC : X.mg x = some (.ref D)) (kC : PySem.W.keepIn X.K (.ref D) = true) (r : Raises X (.ref D)) (hg : Gl X x)
    (he : PE X e1 ta) (hs : starEach [e1] X.env = (false, eval e1 X.env) :: starEach [] X.env := by rfl) (hdb : (x == ("__debug__" : Str)) = false := by decide) : L2N.PMk X (.Call (.Name x p) [e1] [] pos) (fun σ H Q => ta σ H fun _ H1 => Q (.ref D) none H1) := by
  intro pins s σ H Q I h
  refine wpAny_Call_Name_kw (ld_glob I hg gC ?_ hdb)
  refine PySem.W.callWith_K (h₀ := X.base) I.ok.mod.kin kC (thn ((pa_cons he pa_nil hs).run pos pins s σ H (fun vs H1 => match vs with
    | [_] => Q (.ref D) none H1
    | _ => False) I h) fun us s1 hh => ?_) hs (by rfl)
  obtain ⟨vs, H1, I1, r1, q1⟩ := hh
  refine ⟨I1.kIn, ?_⟩
  match vs, r1, q1 with
  | [v], r1, q1 =>
  obtain ⟨u, rfl⟩ : ∃ u, us = [u] := by
    cases r1 with
    | cons a b => cases b; exact ⟨_, rfl⟩
  obtain ⟨bm, N, nm, qn, bs, hdct, sn, sub, ab, col, dd, k0, k1, k2, k3, k5, mN, hC, hN, hni, T⟩ := exc_obj I1.kIn q
  refine wpAny_call_exc_subT F T hC hN hni (fun h' e hm => ?_) (by show 1 ≤ sizeLine; decide)
  exact L2N.mk_of I1 hm r q1 (I1.hok.gone hm.new)
theorem qs_raiseEN (hc : X.calm = true) (tk : L2N.Takes X C.W) (he : L2N.PMk X e fun σ H Q => tD C fe σ H fun _ H1 => Q (.ref (clsA C.mg c)) none H1) : PS X (.Raise (some e) none pos) (tDS C (raiseED c fe)) :=
  PS.weak (L2N.ps_raise hc tk he) fun T σ H ⟨F, env, I, h⟩ => ⟨F, env, I, by
    unfold raiseED at h
    cases ef : fe env with
    | no => rw [ef] at h; exact h
    | er c fs z =>
      rw [ef] at h
      exact ⟨h.1, fun x F' H' I' s' k => h.2 x σ F' H' I' s' k⟩
    | ok p =>
      rw [ef] at h
      exact fun F' H' I' s' v _ => h.2 none σ F' H' I' s' rfl⟩
end
section
variable {X : Cx} {C : Cd} {F H : Hp} {σ : L2.St} {env : DEnv}
theorem t_tryN {x : Str} {i : Nat} {cl : Str → Bool} {gb gs : DS} {T : Ends} (caught : ∀ c, cl c = true → PySem.W.exmOne C.K (.ref (clsA C.mg c)) (.ref (clsA C.mg x)) = some true) :
    tDS C (tryD gb i cl gs) T σ H → tDS { C with W := wAs C.K (.ref (clsA C.mg x)) i (tSu C cl gs) W0 T, rz := true } gb T σ H := fun ⟨F, env, I, h⟩ => ⟨F, env, I.reW, by
  unfold tryD at h
  cases e : gb env with
  | no => rw [e] at h; exact h
  | ok o =>
    rw [e] at h
    cases o with
    | nx z => exact fun σ' F' H' I' s' => h σ' F' H' I'.unW s'
    | bk z => exact fun σ' F' H' I' s' => h σ' F' H' I'.unW s'
    | ct z => exact fun σ' F' H' I' s' => h σ' F' H' I'.unW s'
    | rt s z => exact fun v σ' F' H' I' s' r => h v σ' F' H' I'.unW s' r.unW
  | er c fs z =>
    rw [e] at h
    cases fs with
    | cons f r => exact h.elim
    | nil =>
      simp only at h
      by_cases hc : cl c = true
      · rw [if_pos hc] at h
        refine ⟨rfl, ?_⟩
        intro y σ' F' H' I' s' er
        obtain rfl : y = none := er
        refine ⟨true, caught c hc, fun _ a na => ⟨c, hc, rfl, rfl, F', (noExn z).set i (some (.exn c)), In.setExn (C := suiteC C a c) (In.noExn (C := C) (C' := suiteC C a c) ⟨rfl, rfl, rfl, rfl, rfl⟩ I'.unW) i, ?_⟩, fun q => nomatch q⟩
        have al : Alike (suiteC C a c) C := ⟨rfl, rfl, rfl, rfl, rfl⟩
        cases eg : gs ((noExn z).set i (some (.exn c))) with
        | no => simp only [eg] at h; exact h.elim
        | er c fs e => simp only [eg] at h; exact h.elim
        | ok o =>
          cases o with
          | nx y => simp only [eg] at h; exact fun σ2 F2 H2 I2 s2 => h _ F2 H2 ((I2.drop i Option.none).noExn al) (s'.trans s2)
          | bk y => simp only [eg] at h; exact fun σ2 F2 H2 I2 s2 => h _ F2 H2 ((I2.drop i Option.none).noExn al) (s'.trans s2)
          | ct y => simp only [eg] at h; exact fun σ2 F2 H2 I2 s2 => h _ F2 H2 ((I2.drop i Option.none).noExn al) (s'.trans s2)
          | rt s y => simp only [eg] at h; exact fun v σ2 F2 H2 I2 s2 r => h v σ2 F2 H2 (I2.noExn al) (s'.trans s2) (r.noExn al)
      · rw [if_neg hc] at h; exact h.elim⟩
theorem qs_try_asN {x n : Str} {i : Nat} {cl : Str → Bool} {gb gs : DS} {body suite : List Stmt} {b₀ : Stmt} {np pos pos' : Pos} (ft : Fit X C) (hs : X.stack = X.env :: X.outer) (hf : X.env.frame = some X.env.locals) (hN : X.N.Nodup) (hi : X.N[i]? = some n) (hln : X.env.kindOf n = some .local) (hc : Names X x (.ref (clsA C.mg x)))
    (caught : ∀ c, cl c = true → PySem.W.exmOne C.K (.ref (clsA C.mg c)) (.ref (clsA C.mg x)) = some true)
    (hb : ∀ (W : WX) (pn : List (Addr × Obj)) (xe : Value → Shared → Prop), L2N.Takes (X.tr pn xe) W → PassesOwn (model X.prog X.w) X.A X.env xe → PSs (X.tr pn xe) body (tDS { C with W := W, rz := true } gb))
    (hsu : ∀ (a : Addr) (oe : Obj) (pn : List (Addr × Obj)) (c : Str), cl c = true → L2N.Zn (.ref (clsA C.mg c)) none oe → (∃ vs, oe.data = .fields vs) → PSs (X.suite a ((a, oe) :: pn)) (b₀ :: suite) (tDS (suiteC C a c) gs)) :
    PS X (.Try body [.ExceptHandler (some (.Name x np)) (some n) (b₀ :: suite) pos'] [] [] pos) (tDS C (tryD gb i cl gs)) := by
  have q := L2N.ps_try_as (tb := fun W => tDS { C with W := W, rz := true } gb) (ts := tSu C cl gs) (Wout := W0) (np := np) (pos := pos) (pos' := pos') hs hf hN hi hln hc takes0N hb (fun a oe cls d pn hz hv => ⟨fun pins s σ H D I ⟨c, h1, h2, h3, w⟩ => by
    subst h2 h3
    exact (hsu a oe pn c h1 hz hv).run pins s σ H D I w⟩)
  rw [ft.k] at q
  exact PS.weak q fun T σ H h => t_tryN caught h
theorem qe_isEN {a : Addr} {oe : Obj} {pn : List (Addr × Obj)} {c : Str} {cv : V} {cw : Value} {i : Nat} {sub : Str → Option Bool} {e1 e2 : Expr} {p pos : Pos} (ft : Fit X C) (ex : ExcC C.K (clsA C.mg c)) (hz : L2N.Zn (.ref (clsA C.mg c)) none oe) (hf : ∃ vs, oe.data = .fields vs)
    (hsub : ∀ b, sub c = some b → PySem.W.kitOne C.K (.ref (clsA C.mg c)) cw = some b) (hcw : ∀ u, RelV cv u → u = cw) (hg : Gl X "isinstance") (hm : X.mg "isinstance" = none) (h1 : PE (X.suite a ((a, oe) :: pn)) e1 (tVar i)) (h2 : PE (X.suite a ((a, oe) :: pn)) e2 (tC cv))
    (hx1 : starEach [e1, e2] X.env = (false, eval e1 X.env) :: starEach [e2] X.env := by rfl) (hx2 : starEach [e2] X.env = (false, eval e2 X.env) :: starEach [] X.env := by rfl) (hpl : (backTo pos (starEach [e2] X.env)).any (·.1) = false := by rfl) :
    PE (X.suite a ((a, oe) :: pn)) (.Call (.Name "isinstance" p) [e1, e2] [] pos) (tD (suiteC C a c) (isED i sub)) := by
  rw [← ft.k] at ex
  have q := pe_callB (X := X.suite a ((a, oe) :: pn)) (x := "isinstance") (p := p) (pos := pos) (call_isE ex hz.zc hf) hg hm (by decide +kernel) (pa_cons h1 (pa_cons h2 pa_nil hx2) hx1) (by decide) (by decide) hx1 hpl
  refine PE.weak q fun σ H Q ⟨F, env, I, h⟩ => ?_
  unfold isED at h
  cases ei : env[i]? with
  | none => rw [ei] at h; exact h.elim
  | some z =>
    rw [ei] at h
    cases z with
    | none => exact h.elim
    | some s =>
      cases s with
      | exn c' =>
        simp only at h
        obtain ⟨v, hv, e1, e2⟩ := I.sl i _ ei
        have e2 : c' = c := e2
        have e1 : v = .ref a := e1
        subst e2 e1
        cases es : sub c' with
        | none => simp only [es] at h; exact h.elim
        | some b =>
          simp only [es] at h
          refine ⟨_, hv, cv, cw, b, rfl, hcw, ?_, h.here I _ (show Rep C.K C.mg F _ _ from rBl)⟩
          have := hsub b es
          rw [← ft.k] at this
          exact this
      | _ => exact h.elim
end
theorem InitD.okBXN {P : Program} {w : World} {K : PySem.W.Frag} {mg : Str → Option Value} {base : Heap} {x qual : Str} {st : Stmt} {kws : List (Str × V)} {N ps : List Str} {k : Nat} {g : DS} (D : InitD K mg x qual st kws) (hg : mg x = some (.ref (clsA mg x))) (S : FnScope N ps (defScope st)) (hN : 0 < N.length)
    (hb : ∀ (f : Addr) (cdv : Value) (A : Around) (outer : List Env) (s : Shared) (H : Hp) (E : XK) (F : Hp) (p : Addr), Room k (A.deeper (envOfC qual (defScope st) s.heap.objs.size f cdv)) → Fit (cxOf (L2N.CX P w) P w K mg base N qual (defScope st) f cdv A outer s H E) ⟨K, mg, F, H, fun q => q = p, WD E, 0, "", true⟩ →
      PSs (cxOf (L2N.CX P w) P w K mg base N qual (defScope st) f cdv A outer s H E) (defBody st) (tDS ⟨K, mg, F, H, fun q => q = p, WD E, 0, "", true⟩ g)) : OkC P w K mg base (L2N.CX P w) x qual st (k + 1) ps kws (spBX K mg ps.length (bodyBX N.length g)) := by
  obtain ⟨f, fd, M, F⟩ := D
  refine ⟨f, fd, M, F, F.ok S (fun vs H Q E h => h.1) (fun cdv A outer s H vs Q E hr h => ?_), hg⟩
  obtain ⟨hl, Fz, d0, ds, p, vr, rfl, sm, nF, ow, r, h⟩ := h
  refine ⟨_, hb f cdv A outer s H E Fz p hr ⟨rfl, rfl⟩, Fz, _, In.startB hN sm nF ow r, fin_outBX h⟩
theorem pass_ofN {X : Cx} {E : XK} (tk : L2N.Takes X (WD E)) : Passes (L2N.CX X.prog X.w) X E := fun _ _ _ _ e s' I c => tk e s' (L2N.XE.of_call I (fun _ _ _ h => h) c)
theorem with_tkN {X : Cx} {C : Cd} {ss : List Stmt} {g : DS} (h : L2N.Takes X C.W → PSs X ss (tDS C g)) (tk : L2N.Takes X C.W) : PSs X ss (tDS C g) := h tk
section
variable {C : Cd} {E : XK}
variable {X : Cx} {x qual : Str} {st : Stmt} {ps ks kwo : List Str} {is : List (Option Nat)} {k : Nat} {kws : List (Str × V)} {dv : List V} {dfs : List D} {g : DF} {kfs : List DE} {kk : List Keyword} {p pos : Pos}
theorem qe_makeKXN (ft : Fit X C) (hW : C.W = WD E) (tk : L2N.Takes X C.W) (O : OkC X.prog X.w X.K X.mg X.base (L2N.CX X.prog X.w) x qual st k ps kws (spBX X.K X.mg ps.length g)) (S : ShapeF st ["self"] kwo ks is) (hr : Room (k + 1) X.A) (hg : Gl X x) (hkw : PK X kk (tDA C kfs)) (hd : dv.length = kwo.length) (hm : ∀ q ∈ kwo.zip dv, posOf ks q.1 = none → q ∈ kws) (hdf0 : ∀ F, RepL X.K X.mg F dfs dv)
    (hnk : kfs.length = ks.length := by rfl) (hni : is.length = dfs.length := by rfl) (hps : ps = ("self" : Str) :: kwo := by rfl) (hk : kws ≠ [] := by exact fun z => by cases z)
    (hall : (backToKw pos (keywordEach kk X.env)).all (·.1.isSome) = true := by rfl) (hks : (backToKw pos (keywordEach kk X.env)).filterMap (·.1) = ks := by rfl) (hdb : (x == ("__debug__" : Str)) = false := by decide)
    (hpl : ((backTo pos (starEach [] X.env)).any (·.1) || (backToKw pos (keywordEach kk X.env)).any (·.1.isNone)) = false := by rfl) :
    PE X (.Call (.Name x p) [] kk pos) (tD C (makeKXD g x (fun zs => fill is dfs zs) kfs)) := by
  have hdf : ∀ F, RepL C.K C.mg F dfs dv := by rw [← ft.k, ← ft.m]; exact hdf0
  have q : PE X (.Call (.Name x p) [] kk pos) (tMakeK (clsA X.mg x) 0 ks.length (spBX X.K X.mg ps.length g) (fun vs zs => vs ++ fill is dv zs) E tNil (tDA C kfs)) := by
    obtain ⟨f, fd, M, F, G, m⟩ := O
    obtain ⟨ds, kb⟩ := funD_kbn F S hps hk hd hm
    exact pe_makeK0 M G hr hg m kb (pass_ofN (by rw [← hW]; exact tk)) hkw hall hks hdb hpl
  rw [ft.k, ft.m] at q
  refine PE.weak q fun σ H Q ⟨F, env, I, h⟩ => ?_
  show tDA C kfs σ H fun zs H2 => _
  unfold makeKXD at h
  refine ⟨F, env, I, ?_⟩
  cases ea : argsD kfs env with
  | no => rw [ea] at h; exact h
  | er c fs z => rw [ea] at h; exact h
  | ok r =>
    rw [ea] at h
    simp only [R.bind_ok] at h
    intro F1 H1 I1 s1 vs rv
    have hdl := (hdf F).len
    refine ⟨rfl, by rw [rv.len, argsD_len ea, hnk], ?_⟩
    have rf : RepL C.K C.mg F1 (fill is dfs r.1) (fill is dv vs) := rep_fill rv is (hdf F1)
    refine new_ofX hW I1 rf ?_ (Fin.le s1 h)
    show (fill is dv vs).length + 1 = ps.length
    rw [rf.len, fill_len hni, ← hdl, hd, hps]
    rfl
end
section
variable {env : DEnv} {X : Str → DEnv → Prop} {T : Out → Prop}
theorem e_raiseE {c : Str} {fe : DE} : wE (raiseED c fe env) T X kq kq = wE (fe env) (fun p => X c p.2) X kq kq := by
  unfold raiseED
  cases fe env with
  | no => rfl
  | er c fs z => cases fs <;> rfl
  | ok p => rfl
end
/-! ### any(list of truths) while an exception is handled -/
section
variable {prog : Program} {w : World} {A : Around} {E : Value → Shared → Prop} {s : Shared}
theorem listEnd_hot {it l x1 : Addr} {i : Nat} {items : Array Value} {Q : Option Value → Shared → Prop} (hot : HotAt A x1 s.heap) (hit : s.heap.IsListIter it l i) (hl : s.heap.IsList l items) (hx : items[i]? = none) (hne : x1 ≠ it)
    (hQ : ∀ h', Heap.ExtBut it s.heap h' → Q none { s with heap := h' }) : wpAny (model prog w) A (pyNext (.ref it)) Q E s := by
  obtain ⟨o, ho, hc, hd⟩ := id hit
  obtain ⟨ol, hol, _, nl, hdl⟩ := hl
  obtain ⟨hh, o1, vs1, h1, d1, c1⟩ := hot
  unfold pyNext
  refine wpAny_bind (wpAny_attempt (wpAny_callSpecial?_slot (name := Str.ofString "__next__") hit.typeIs slot_listiter_next (wpAny_call_entry slot_listiter_next hit.typeIs entry_listiter_next ?_ (args_listiter_next _))))
  show wpAny _ _ (field (.ref it) 0 >>= _) _ _ s
  refine wpAny_bind (wpAny_field ho hd (x := .ref l) rfl ?_)
  show wpAny _ _ (if (Value.ref l == Value.none) = true then _ else _) _ _ s
  rw [if_neg (by simp)]
  show wpAny _ _ (field (.ref it) 1 >>= _) _ _ s
  refine wpAny_bind (wpAny_field ho hd (x := .int i 0) rfl ?_)
  show wpAny _ _ (seqItems? (.ref l) >>= _) _ _ s
  refine wpAny_bind (wpAny_seqItems hol hdl ?_)
  simp only [Int.toNat_natCast, hx]
  refine wpAny_bind (wpAny_rule (wpAny_bind (wpAny_setField ho hd (by simp) ?_)))
  show wpAny _ _ (newExc (.type "StopIteration") [] >>= _) _ _ _
  refine wpAny_bind ?_
  simp only [newExc, newTuple]
  refine wpAny_bind (wpAny_newObj_type ?_ (by size_fits))
  refine wpAny_bind (m := firstArgMember _ _) (wpAny_of_eq (a := Value.none) (by first | rfl | (simp only [firstArgMember]; rfl)) ?_)
  refine wpAny_newObj_type ?_ (by size_fits)
  have g1 : (s.heap.update it (Obj.mapFields (·.setIfInBounds 0 .none))).get? x1 = some o1 := by rw [Heap.get?_update_other _ _ (Ne.symm hne)]; exact h1
  have g2 := Heap.get?_push_of_some { cls := Value.type "tuple", data := Data.seq #[] } g1
  refine raiseNew_hot ⟨hh, o1, vs1, Heap.get?_push_of_some _ g2, d1, c1⟩ (Nat.ne_of_lt (Heap.lt_size g2)) (Heap.get?_push_size _ rfl) rfl (by first | (simp; done) | (simp; omega) | (simp only [Array.size_append]; simp; omega)) ?_
  refine wpAny_bind (wpAny_isInstance (T := "StopIteration") (b := true) ⟨_, Heap.get?_update_self _ (Heap.get?_push_size _ rfl) rfl, rfl⟩ isSubtype_stop ?_)
  refine wpAny_pure (hQ _ fun b o hb e => ?_)
  have e1 : (s.heap.update it (Obj.mapFields (·.setIfInBounds 0 .none))).get? b = some o := by rw [Heap.get?_update_other _ _ (Ne.symm hb)]; exact e
  have e2 := Heap.get?_push_of_some { cls := Value.type "tuple", data := Data.seq #[] } e1
  rw [Heap.get?_update_other _ _ (Nat.ne_of_gt (Heap.lt_size e2))]
  exact Heap.get?_push_of_some _ e2
theorem walks_hot {it l x1 : Addr} {o1 : Obj} {vs1 : Array Value} {items : Array Value} (hh : A.handled = some (.ref x1)) (d1 : o1.data = .fields vs1) (c1 : vs1[2]? = some .none) (hne : l ≠ it) (hx : x1 ≠ it) :
    Walks prog w A it [it, l, x1] [it] items.size (fun i v => items[i]? = some v) (fun i h => h.IsListIter it l i ∧ h.IsList l items ∧ h.get? x1 = some o1) where
  sub := fun b hb => by simp at hb; simp [hb]
  frame := fun i h h' st hk => ⟨st.1.at fun o e => hk it (by simp) o e, st.2.1.at fun o e => hk l (by simp) o e, hk x1 (by simp) _ st.2.2⟩
  item := fun i s Q E hi st hQ => by
    refine wpAny_pyNext_list_item st.1 st.2.1 (x := items[i]) (by simp [hi]) fun h' hit' hs' => ?_
    exact hQ _ h' s.toks (by simp [hi]) ⟨hit', st.2.1.extBut hs'.extBut hne, hs'.extBut _ _ hx st.2.2⟩ fun b o hb e => hs'.extBut b o (fun h => hb (by simp [h])) e
  done := fun s Q E st hQ => listEnd_hot ⟨hh, o1, vs1, st.2.2, d1, c1⟩ st.1 st.2.1 (by simp) hx fun h' he' => hQ h' s.toks fun b o hb e => he' b o (fun h => hb (by simp [h])) e
  self := fun _ _ _ _ st hQ => wpAny_pyIter_listiter st.1 hQ
end
theorem cr_anyH {X : Cx} (hc : HotC X) : CallR X (.builtin "any") (rAny X.K) := by
  intro pins s σ H vs us Q I r h
  obtain ⟨a, bs, rfl, hs, q⟩ := h
  obtain ⟨its, rv, hl, _⟩ := I.list hs
  obtain ⟨p, ⟨hh, v1, e1, c1⟩, hp⟩ := hc
  have gp := (I.pin p (List.mem_append_left _ hp)).1
  rw [Vals.ref1 r]
  have hb := rv.bls
  refine call_any_walk (iter_any hl.isList fun s₂ e2 st hne => ?_)
  subst e2
  have hx : p.1 ≠ s.heap.objs.size := Nat.ne_of_lt (Heap.lt_size gp)
  refine ⟨_, _, _, _, _, _, _, rfl, walks_hot (A := X.A.in1) hh e1 c1 hne hx, ⟨st.1, st.2, Heap.get?_push_of_some _ gp⟩, truth_bools hb, fun h' tk hk => ?_⟩
  refine ⟨.bl _, H, I.kept fun b o eo => hk b o (fun hmem => ?_) (Heap.get?_push_of_some _ eo), ?_, q⟩
  · obtain rfl : b = s.heap.objs.size := by simpa using hmem
    exact absurd (Heap.lt_size eo) (Nat.lt_irrefl _)
  · show Value.bool _ = Value.bool _
    rw [← L2.any_range, hb, List.size_toArray, List.length_map]
theorem hotS {X : Cx} {a : Addr} {oe : Obj} {pn : List (Addr × Obj)} {cls : Value} {d : Option Addr} (hz : L2N.Zn cls d oe) (hf : ∃ vs, oe.data = .fields vs) : HotC (X.suite a ((a, oe) :: pn)) := ⟨(a, oe), ⟨rfl, hf.elim fun vs hv => ⟨vs, hv, hz.2.2 vs hv⟩⟩, List.mem_cons_self⟩
theorem ca_anyH {X : Cx} {C : Cd} (ft : Fit X C) (hc : HotC X) : CallR X (.builtin "any") (rAny C.K) := by rw [← ft.k]; exact cr_anyH hc
end Dd

namespace Dd
open PySem PySem.Spec PyProof.Rows L2 L2H
/-! ### f(e) in the suite of `except .. as e`, f a def that looks at what was caught -/
def bodyE (n : Nat) (g : DS) : Str → R (List D) (Sl × List D) := fun c => outF (g (some (.exn c) :: List.replicate (n - 1) none))
/-- what such a def promises: c is the class of what was caught, cl those that are -/
def RunE (P : Program) (w : World) (K : PySem.W.Frag) (mg : Str → Option Value) (base : Heap) (k : Nat) (f : Addr) (fd : FuncData) (ps : List Str) (cl : Str → Bool) (g : Str → R (List D) (Sl × List D)) : Prop :=
  ∀ (A : Around) (outer : List Env) (s : Shared) (H F : Hp) (args : Args) (a : Addr) (oe : Obj) (c : Str) (Q : VK), RoomH k A → A.handled = some (.ref a) → cl c = true → L2N.Zn (.ref (clsA mg c)) none oe → (∃ vs, oe.data = .fields vs) → PinOk outer H s (a, oe) →
    Env0 P w K mg base A outer s H → BindsTo s fd args (ps.zip [.ref a]) → Same F H → (match g c with
      | .ok (sl, _) => ∀ v F' H', Ext F H F' H' → ResO K mg F' H' H sl v → Q v H'
      | _ => False) → codeAny (model P w) A (.call (.ref f) args) (CR CX0 outer P w H s Q E0) s
structure OkE (P : Program) (w : World) (K : PySem.W.Frag) (mg : Str → Option Value) (base : Heap) (x : Str) (st : Stmt) (k : Nat) (ps : List Str) (cl : Str → Bool) (g : Str → R (List D) (Sl × List D)) : Prop where
  ex : ∃ f fd, Fun K x x st f fd ∧ RunE P w K mg base k f fd ps cl g ∧ mg x = some (.ref f) ∧ Binds K fd ps []
section
variable {P : Program} {w : World} {K : PySem.W.Frag} {mg : Str → Option Value} {base : Heap} {x y : Str} {st : Stmt} {N : List Str} {k : Nat} {cl : Str → Bool} {g : DS}
theorem In.startE {F H : Hp} {a : Addr} {c : Str} (hN : 0 < N.length) (s : Same F H) : In ⟨K, mg, F, H, fun _ => False, W0, a, c, false⟩ F H (L2.start N [.ref a]) (some (.exn c) :: List.replicate (N.length - 1) Option.none) := by
  have at0 : ∀ (i : Nat) (z : Sl), (some (Sl.exn c) :: List.replicate (N.length - 1) (Option.none : Option Sl))[i]? = some (some z) → i = 0 ∧ z = .exn c := by
    intro i z hz
    cases i with
    | zero => rw [List.getElem?_cons_zero] at hz; cases hz; exact ⟨rfl, rfl⟩
    | succ j =>
      rw [List.getElem?_cons_succ, List.getElem?_replicate] at hz
      split at hz <;> cases hz
  refine ⟨.refl _, s, fun a o h _ => h, fun a o h => .inl h, ?_, fun i z hz => ?_, fun i j z t p hi hj mz => ?_, fun p hp => hp.elim⟩
  · unfold L2.start
    simp
  · obtain ⟨rfl, rfl⟩ := at0 i z hz
    exact ⟨.ref a, start_get rfl, rfl, rfl⟩
  · obtain ⟨_, rfl⟩ := at0 i z hi
    cases mz
theorem Has.okE (D : Has K mg x st [y]) (S : FnScope N [y] (defScope st)) (hN : 0 < N.length)
    (hb : ∀ (f : Addr) (cdv : Value) (A : Around) (outer : List Env) (s : Shared) (H F : Hp) (a : Addr) (oe : Obj) (c : Str), RoomH k (A.deeper (envOfC x (defScope st) s.heap.objs.size f cdv)) → cl c = true → L2N.Zn (.ref (clsA mg c)) none oe → (∃ vs, oe.data = .fields vs) → HotC (cxH CX0 P w K mg base N x (defScope st) f cdv A outer s H E0 (a, oe)) →
      Fit (cxH CX0 P w K mg base N x (defScope st) f cdv A outer s H E0 (a, oe)) ⟨K, mg, F, H, fun _ => False, W0, a, c, false⟩ →
      PSs (cxH CX0 P w K mg base N x (defScope st) f cdv A outer s H E0 (a, oe)) (defBody st) (tDS ⟨K, mg, F, H, fun _ => False, W0, a, c, false⟩ g)) : OkE P w K mg base x st (k + 1) [y] cl (bodyE N.length g) := by
  obtain ⟨f, fd, FF, gl, b⟩ := D
  refine ⟨f, fd, FF, ?_, gl, b⟩
  obtain ⟨oc, od, kV, doc, pm, an, cdv, ct, osl, rfl, lk, hcd⟩ := FF.ex
  intro A outer s H F args a oe c Q hr hhd hcl hz hf hpin e0 hbd sm h
  have kin : K.In s.heap := e0.mod.kin.keeps fun q o e => (e0.bs q o e).1
  have nol : s.heap.NoLimit := e0.mod.nolimit.keeps fun q o e => (e0.bs q o e).1
  have kinds : ∀ z ∈ [y].zip [Value.ref a], (defScope st).names.lookup z.1 = some .local ∨ ((defScope st).names.lookup z.1 = some .cell ∧ ((cellsFrom (s.heap.objs.size + 1) (defScope st).names []).lookup z.1).isSome = true) := by
    intro z hz
    have e : z = (y, Value.ref a) := by simpa using hz
    subst e
    rcases S.par y (by simp) with q | q
    · exact .inl q
    · exact .inr ⟨q, PySem.W.cellsFrom_some _ _ _ (.inl q)⟩
  refine codeAny_call_function hr.depth (kin _ _ lk) rfl S.co S.gen rfl (PySem.W.codeRec_of kin hcd) (hbd _ _ _ _ ?_)
  refine wpAny_newFunctionEnv_cells S.kind kinds fun ev he s1 xx => ?_
  subst he
  refine ⟨nol.keeps xx.toInCall.keep, codeAny_func ?_⟩
  have I := inv_startH (CX := CX0) (E := E0) (vs := [.ref a]) S hpin e0 rfl (.cons rfl .nil) xx
  have hot : HotC (cxH CX0 P w K mg base N x (defScope st) f cdv A outer s H E0 (a, oe)) := ⟨(a, oe), ⟨hhd, hf.elim fun vs hv => ⟨vs, hv, hz.2.2 vs hv⟩⟩, List.mem_cons_self⟩
  have body := hb f cdv A outer s H F a oe c (hr.deeper _) hcl hz hf hot ⟨rfl, rfl⟩
  have q : tDS ⟨K, mg, F, H, fun _ => False, W0, a, c, false⟩ g { nx := fun _ H' => Q .non H', rt := Q } (L2.start N [.ref a]) H := by
    refine ⟨F, _, In.startE hN sm, ?_⟩
    unfold bodyE at h
    cases e : g (some (.exn c) :: List.replicate (N.length - 1) none) with
    | no => rw [e] at h; exact h
    | er c fs z => rw [e] at h; exact h.elim
    | ok o =>
      rw [e] at h
      cases o with
      | nx z => exact fun σ F' H' I s => h _ F' H' ⟨I.f0, I.fh, fun a o h => I.fr a o h (fun z => z), I.nf⟩ (show Rep K mg F' .non .non from rNon)
      | rt t z =>
        intro v σ F' H' I _ r
        refine h _ F' H' ⟨I.f0, I.fh, fun a o h => I.fr a o h (fun z => z), I.nf⟩ ?_
        cases t with
        | frz d => exact r
        | exn c => exact r.elim
        | own d =>
          obtain ⟨p, rfl, fr⟩ := r
          exact ⟨p, rfl, fr.f, fr.h0, fr.o⟩
        | bor d => exact r.elim
      | bk z => exact h.elim
      | ct z => exact h.elim
  refine wpAny_mono (body.run [] s1 _ H _ I q) (fun fl s' hs => ?_) fun e s' hs => hs
  cases fl with
  | ret u => exact hs.elim fun v hs => hs.elim fun σ' hs => hs.elim fun H' hs => ⟨v, H', hs.1.os, hs.1.bare, hs.1.base, hs.1.hok, hs.2.1, hs.2.2⟩
  | next => exact hs.elim fun σ' hs => hs.elim fun H' hs => ⟨V.non, H', hs.1.os, hs.1.bare, hs.1.base, hs.1.hok, rfl, hs.2⟩
  | brk => exact hs.elim fun _ hs => hs.elim fun _ hs => False.elim hs.2
  | cont => exact hs.elim fun _ hs => hs.elim fun _ hs => False.elim hs.2
end
def callED (g : Str → R (List D) (Sl × List D)) (i : Nat) : DE := fun env => match env[i]? with
  | some (some (.exn c)) => (match g c with
    | .ok (s, _) => .ok (s, env)
    | _ => .no)
  | _ => .no
section
variable {X : Cx} {C : Cd} {a : Addr} {oe : Obj} {pn : List (Addr × Obj)} {c : Str}
theorem qe_callE {x : Str} {st : Stmt} {k : Nat} {ps : List Str} {cl : Str → Bool} {g : Str → R (List D) (Sl × List D)} {i : Nat} {e1 : Expr} {p pos : Pos} (ft : Fit X C) (O : OkE X.prog X.w X.K X.mg X.base x st k ps cl g) (hn : ps.length = 1) (hcl : cl c = true) (hz : L2N.Zn (.ref (clsA C.mg c)) none oe) (hf : ∃ vs, oe.data = .fields vs)
    (hr : Room k X.A) (hg : Gl X x) (h1 : PE (X.suite a ((a, oe) :: pn)) e1 (tVar i)) (hdb : (x == ("__debug__" : Str)) = false := by decide) (hx1 : starEach [e1] X.env = (false, eval e1 X.env) :: starEach [] X.env := by rfl) (hpl : (backTo pos (starEach [] X.env)).any (·.1) = false := by rfl) :
    PE (X.suite a ((a, oe) :: pn)) (.Call (.Name x p) [e1] [] pos) (tD (suiteC C a c) (callED g i)) := by
  obtain ⟨f, fd, FF, G, m, b⟩ := O
  refine ⟨fun pins s σ H Q I ⟨F, env, I0, h⟩ => ?_⟩
  unfold callED at h
  cases ei : env[i]? with
  | none => rw [ei] at h; exact h.elim
  | some z =>
    rw [ei] at h
    cases z with
    | none => exact h.elim
    | some sl =>
      cases sl with
      | exn c' =>
        simp only at h
        obtain ⟨v, hv, e1', e2'⟩ := I0.sl i _ ei
        have e2 : c' = c := e2'
        have e3 : v = .ref a := e1'
        subst e2 e3
        refine wpAny_Call_Name_kw (ld_glob I hg m ?_ hdb)
        refine PySem.W.callWith_K (h₀ := X.base) I.ok.mod.kin FF.kp (thn ((pa_cons h1 pa_nil hx1).run pos pins s σ H (fun vs H' => vs = [.ref a] ∧ H' = H) I ⟨_, hv, rfl, rfl⟩) fun us s1 q1 => ?_) hx1 hpl
        obtain ⟨vs, H1, I1, r, rfl, rfl⟩ := q1
        refine ⟨I1.kIn, ?_⟩
        cases r with
        | cons r1 r2 =>
          cases r2
          cases r1
          have P1 := I1.pin (a, oe) (List.mem_append_left _ List.mem_cons_self)
          have hpin : PinOk X.stack H1 s1 (a, oe) := ⟨P1.1, P1.2.1, fun hm => (List.mem_cons.mp (I1.stkSub a hm)).elim P1.2.2.1 P1.2.2.2.1, P1.2.2.2.2⟩
          have bb := b s1 [.ref a] I1.kIn (by rw [List.append_nil]; exact hn.symm)
          rw [List.append_nil] at bb
          have hz' : L2N.Zn (.ref (clsA X.mg c')) none oe := by rw [ft.m]; exact hz
          refine wpAny_call (codeAny_mono (G (X.suite a ((a, oe) :: pn)).A X.stack s1 H1 F ⟨[.ref a], []⟩ a oe c' Q ⟨hr.dp, hr.un⟩ rfl hcl hz' hf hpin I1.env0 bb I0.fh ?_) fun r s' hq => ?_)
          · cases eg : g c' with
            | no => simp only [eg] at h; exact h.elim
            | er c fs z => simp only [eg] at h; exact h.elim
            | ok q =>
              simp only [eg] at h
              intro v F' H' xt rs
              rw [ft.k, ft.m] at rs
              exact h F' H' (I0.call xt) xt.ff v (I0.resO rs)
          · cases r with
            | error e => exact False.elim hq
            | ok fl =>
              cases fl with
              | ret u => exact I1.after hq
              | next => exact False.elim hq
              | brk => exact False.elim hq
              | cont => exact False.elim hq
      | _ => exact h.elim
end
end Dd

namespace Dd
open PySem PySem.Spec PyProof.Rows L2
/-! ### a != b of two instances of one class that has an own == and no own != -/
section
variable {prog : Program} {w : World} {A : Around} {E : Value → Shared → Prop} {s : Shared} {K : PySem.W.Frag} {x y C f : Addr} {ox oy : Obj} {od odY : Option Obj}
theorem entry_neO {Q : PySem.Fin → Shared → Prop} (hu : A.units < cLine) (X : K.In s.heap) (I : PySem.W.InstAt s.heap x ox C od) (he : PySem.W.findIn K (.ref C) "__eq__" = some (some (.ref f))) (hf : PySem.W.isFn K (.ref f) = true)
    (h : wpAny (model prog w) A (call (.ref f) [.ref x, .ref y]) (fun v s' => ∃ b, v = .bool b ∧ Q (.done (.ret (.bool (!b)))) s') E s) : wpAny (model prog w) A (Builtin.«object.__ne__» ⟨[.ref x, .ref y], []⟩) Q E s := by
  unfold Builtin.«object.__ne__»
  refine wpAny_bind (m := slotArgs "__ne__" 1 _) (wpAny_pure ?_)
  refine wpAny_bind (m := cRoomFor _ _) (wpAny_cRoomFor hu ?_)
  refine wpAny_bind (m := callSpecialIfBound? (.ref x) (Str.ofString "__eq__") _) (PySem.W.ifBound_K X I he hf (wpAny_mono h (fun r s' hq => ?_) fun _ _ z => z))
  obtain ⟨b, rfl, hq⟩ := hq
  refine wpAny_bind (m := truthy (.bool b)) (wpAny_truthy_bool ?_)
  exact wpAny_pure hq
theorem call_neO {Q : Value → Shared → Prop} (hu : A.in1.units < cLine) (X : K.In s.heap) (I : PySem.W.InstAt s.heap x ox C od) (hm : PySem.W.mroIn K C (.type "object") = some true) (he : PySem.W.findIn K (.ref C) "__eq__" = some (some (.ref f))) (hf : PySem.W.isFn K (.ref f) = true)
    (h : wpAny (model prog w) A.in1 (call (.ref f) [.ref x, .ref y]) (fun v s' => ∃ b, v = .bool b ∧ Q (.bool (!b)) s') E s) : wpAny (model prog w) A (call (.builtin "object.__ne__") [.ref x, .ref y]) Q E s :=
  wpAny_call (codeAny_call_builtin F.cmp_object.ne.plain F.cmpEntry_ne (PySem.W.check_slot F.cmpKind_ne F.cmpSplit_ne (I.type.andThen (PySem.W.looks_mroIn X hm)) (F.cmpArgs_ne _ _) (entry_neO hu X I he hf h)))
theorem bound_neO {args : List Value} {Q : Option Value → Shared → Prop} (X : K.In s.heap) (I : PySem.W.InstAt s.heap x ox C od) (hs : PySem.W.findIn K (.ref C) "__ne__" = some (some (.builtin "object.__ne__")))
    (h : wpAny (model prog w) A (call (.builtin "object.__ne__") (.ref x :: args)) (fun v => Q (some v)) E s) : wpAny (model prog w) A (callSpecialIfBound? (.ref x) "__ne__" args) Q E s := by
  have last : wpAny (model prog w) A (call (.builtin "object.__ne__") ([.ref x] ++ args) >>= fun v => pure (some v)) Q E s := wpAny_bind (wpAny_mono h (fun v s' z => wpAny_pure z) fun _ _ z => z)
  simp only [callSpecialIfBound?, bindSpecialIfBound?]
  refine wpAny_holding (wpAny_bind (wpAny_bind (wpAny_bind (I.type.here ((PySem.W.looks_findIn X hs).here (wpAny_bind (wpAny_askSetting (wpAny_ite ?_))))))))
  split
  · exact wpAny_bind (wpAny_of_eq (F.cmp_object.ne.bind _) (wpAny_pure (by exact last)))
  · exact wpAny_tryCatch (wpAny_bind (wpAny_of_eq (F.cmp_object.ne.bind _) (wpAny_pure (by exact last))))
theorem rc_neO {Q : Value → Shared → Prop} (hu : A.units < cLine) (hu1 : A.in1.units < cLine) (X : K.In s.heap) (I : PySem.W.InstAt s.heap x ox C od) (J : PySem.W.InstAt s.heap y oy C odY) (hm : PySem.W.mroIn K C (.type "object") = some true)
    (hs : PySem.W.findIn K (.ref C) "__ne__" = some (some (.builtin "object.__ne__"))) (he : PySem.W.findIn K (.ref C) "__eq__" = some (some (.ref f))) (hf : PySem.W.isFn K (.ref f) = true)
    (h : wpAny (model prog w) A.in1 (call (.ref f) [.ref x, .ref y]) (fun v s' => ∃ b, v = .bool b ∧ Q (.bool (!b)) s') E s) : wpAny (model prog w) A (compareOp .NotEq (.ref x) (.ref y)) Q E s := by
  show wpAny (model prog w) A (richCompare .NotEq (.ref x) (.ref y)) Q E s
  have one : wpAny (model prog w) A (tryCompare (.ref x) "__ne__" (.ref y)) (fun r s' => ∃ b : Bool, r = some (.bool b) ∧ Q (.bool b) s') E s := by
    unfold tryCompare
    refine wpAny_bind (bound_neO X I hs (call_neO hu1 X I hm he hf (wpAny_mono h (fun v s' hv => ?_) fun _ _ z => z)))
    obtain ⟨b, rfl, hq⟩ := hv
    exact ⟨b, rfl, wpAny_pure ⟨_, rfl, hq⟩⟩
  simp only [richCompare, cmpInfo_NotEq, oneThing_ref]
  refine wpAny_holding (wpAny_bind (wpAny_cRoomFor hu ?_))
  refine wpAny_bind (I.type.here (wpAny_bind (J.type.here ?_)))
  rw [show (Value.ref C != Value.ref C) = false from by simp]
  simp only [Bool.false_eq_true, if_false]
  refine wpAny_bind (wpAny_pure ?_)
  simp only [Bool.false_eq_true, if_false]
  refine wpAny_bind (m := tryCompare (.ref x) _ (.ref y)) (wpAny_mono one (fun r s1 z => ?_) fun _ _ z => z)
  obtain ⟨b, rfl, hq⟩ := z
  exact wpAny_pure hq
end
end Dd

namespace Dd
open PySem PySem.Spec PyProof.Rows L2 L2H
/-! ### __eq__ of a class; != over data -/
abbrev eqA (K : PySem.W.Frag) (mg : Str → Option Value) (x : Str) : Addr := He.ma K (clsA mg x) "__eq__"
def eqB (K : PySem.W.Frag) (C : Addr) : Bool := decide (PySem.W.findIn K (.ref C) "__eq__" = some (some (.ref (He.ma K C "__eq__")))) && PySem.W.isFn K (.ref (He.ma K C "__eq__")) && decide (PySem.W.findIn K (.ref C) "__ne__" = some (some (.builtin "object.__ne__"))) && decide (PySem.W.mroIn K C (.type "object") = some true)
structure EqM (K : PySem.W.Frag) (mg : Str → Option Value) (x qual : Str) (st : Stmt) : Prop where
  fn : ∃ fd, FunD K "__eq__" qual (defArgs st) (defBody st) (defScope st) [] [] (eqA K mg x) fd
  cl : eqB K (clsA mg x) = true
structure OkQ (P : Program) (w : World) (K : PySem.W.Frag) (mg : Str → Option Value) (base : Heap) (x : Str) (k : Nat) (g : DF) : Prop where
  ex : ∃ fd ps, FnOk P w K mg base CX0 k (eqA K mg x) fd ps (sp0 K mg 2 g) ∧ Binds K fd ps [] ∧ ps.length = 2
  cl : eqB K (clsA mg x) = true
section
variable {P : Program} {w : World} {K : PySem.W.Frag} {mg : Str → Option Value} {base : Heap} {x qual : Str} {st : Stmt} {N : List Str} {p1 p2 : Str} {k : Nat} {g : DS}
theorem EqM.ok (D : EqM K mg x qual st) (S : FnScope N [p1, p2] (defScope st))
    (b : ∀ (qual : Str) (cl : List (Str × Addr)) (kV doc pm : Value) (an : Option Addr) (cdv ct : Value) (us : List Value), us.length = 2 → bindArgs (PySem.W.fnX "__eq__" qual (defArgs st) (defBody st) (defScope st) cl .none kV doc pm an cdv ct) ⟨us, []⟩ = pure ([p1, p2].zip us))
    (hb : ∀ (f : Addr) (cdv : Value) (A : Around) (outer : List Env) (s : Shared) (H : Hp) (E : XK) (F : Hp), Room k (A.deeper (envOfC qual (defScope st) s.heap.objs.size f cdv)) → Fit (cxOf CX0 P w K mg base N qual (defScope st) f cdv A outer s H E).nox ⟨K, mg, F, H, fun _ => False, W0, 0, "", false⟩ →
      PSs (cxOf CX0 P w K mg base N qual (defScope st) f cdv A outer s H E).nox (defBody st) (tDS ⟨K, mg, F, H, fun _ => False, W0, 0, "", false⟩ g)) : OkQ P w K mg base x (k + 1) (bodyF N.length g) := by
  obtain ⟨⟨fd, F⟩, cl⟩ := D
  refine ⟨⟨fd, [p1, p2], F.ok S (fun vs H Q E h => h.1) (fun cdv A outer s H vs Q E hr h => ?_), ?_, rfl⟩, cl⟩
  · obtain ⟨hl, Fz, ds, sm, r, h⟩ := h
    refine ⟨_, PSs.nox (hb _ cdv A outer s H E Fz hr ⟨rfl, rfl⟩), Fz, _, In.start sm r, ?_⟩
    unfold bodyF at h
    cases e : g (env0 N.length ds) with
    | no => rw [e] at h; exact h
    | er c fs z => rw [e] at h; exact h.elim
    | ok o =>
      rw [e] at h
      cases o with
      | nx z => exact fun σ F' H' I s => h _ F' H' (I.ext (N := N)) (show Rep K mg F' .non .non from rNon)
      | rt s z => exact fun v σ F' H' I _ r => h _ F' H' (I.ext (N := N)) r.out
      | bk z => exact h.elim
      | ct z => exact h.elim
  · obtain ⟨oc, od, dV, kV, doc, pm, an, cdv, ct, osl, rfl, lk, hcd, hD, hK⟩ := F.ex
    rcases hD with ⟨_, rfl⟩ | ⟨e, _⟩
    · exact Binds.all (b qual [] kV doc pm an cdv ct)
    · exact absurd rfl e
end
def rNeO (K : PySem.W.Frag) (mg : Str → Option Value) (c : Str) (g : DF) : R2 := fun x y H Q => ∃ a b dx dy fs gs, x = .ref a ∧ y = .ref b ∧ H a = some (.ins (clsA mg c) dx fs) ∧ H b = some (.ins (clsA mg c) dy gs) ∧ sp0 K mg 2 g [x, y] H (fun v H' => ∃ r, v = .bl r ∧ Q (.bl (!r)) H') E0
theorem op_neO {X : Cx} {c : Str} {k : Nat} {g : DF} (O : OkQ X.prog X.w X.K X.mg X.base c k g) (hr : Room (k + 1) X.A) : OpR X (compareOp .NotEq) (rNeO X.K X.mg c g) := by
  obtain ⟨⟨fd, ps, G, b, hp⟩, cl⟩ := O
  intro pins s σ H x y v u Q I rx ry h
  obtain ⟨p, q, dx, dy, fs, gs, rfl, rfl, hp1, hq1, hsp⟩ := h
  cases rx
  cases ry
  obtain ⟨mA, J, _⟩ := ins_get I.hok hp1
  obtain ⟨mB, J', _⟩ := ins_get I.hok hq1
  obtain ⟨od, J, _⟩ := J.look
  obtain ⟨od', J', _⟩ := J'.look
  unfold eqB at cl
  simp only [Bool.and_eq_true, decide_eq_true_eq] at cl
  obtain ⟨⟨⟨c1, c2⟩, c3⟩, c4⟩ := cl
  refine rc_neO hr.units0 hr.in1.units0 I.kIn J J' c4 c3 c1 c2 ?_
  have e := I.env0
  have e0 : Env0 X.prog X.w X.K X.mg X.base X.A.in1 X.stack s H := ⟨e.frames, e.mod, e.bs, e.bsz, e.funs, e.frf, e.hok, e.bare⟩
  have r2 : Vals [V.ref p, V.ref q] [Value.ref p, Value.ref q] := .cons rfl (.cons rfl .nil)
  have bb := b s [.ref p, .ref q] I.kIn (by rw [List.append_nil]; exact hp.symm)
  rw [List.append_nil] at bb
  refine wpAny_call (codeAny_mono (G.run X.A.in1 X.stack s H ⟨[.ref p, .ref q], []⟩ [.ref p, .ref q] [.ref p, .ref q] _ E0 hr.in1 e0 bb r2 hsp) fun r s' hq => ?_)
  cases r with
  | error e => exact False.elim hq
  | ok fl =>
    cases fl with
    | ret w =>
      obtain ⟨z, H', I', rz, t, ez, q⟩ := I.after hq
      subst ez
      cases rz
      exact ⟨t, rfl, .bl (!t), H', I', rfl, q⟩
    | next => exact False.elim hq
    | brk => exact False.elim hq
    | cont => exact False.elim hq
def gNeO (c : Str) (g : DF) : D → D → Option Sl
  | .obj c1 k1 d1, .obj c2 k2 d2 => if c1 = c ∧ c2 = c then (match g [.obj c1 k1 d1, .obj c2 k2 d2] with
    | .ok (.frz (.bl r), _) => some (.frz (.bl (!r)))
    | _ => none) else none
  | _, _ => none
theorem ok_neO {C : Cd} {c : Str} {g : DF} : OpOk C (rNeO C.K C.mg c g) (gNeO c g) := by
  intro F H σ env x y d e s Q I rx ry hg k
  unfold gNeO at hg
  split at hg
  · rename_i c1 k1 d1 c2 k2 d2
    split at hg
    · rename_i hc
      obtain ⟨rfl, rfl⟩ := hc
      have rxs := rx
      have rys := ry
      unfold Rep at rx ry
      obtain ⟨a, dx, xs, rfl, ha, _⟩ := rx
      obtain ⟨b, dy, ys, rfl, hb, _⟩ := ry
      refine ⟨a, b, dx, dy, _, _, rfl, rfl, I.fh _ _ ha, I.fh _ _ hb, rfl, F, [_, _], I.fh, repCons rxs (repCons rys repNil), ?_⟩
      split at hg
      · rename_i r l eg
        cases hg
        rw [eg]
        intro v F' H' xt rv
        have rv : Rep C.K C.mg F' (.bl r) v := rv
        exact ⟨r, rv.bl, k _ F' H' (I.call xt) xt.ff (show Rep C.K C.mg F' _ _ from rBl)⟩
      · cases hg
    · cases hg
  · cases hg
/-! ### isinstance(x, T), T built in, where x may be an instance of an own class -/
def bltB (K : PySem.W.Frag) (C : Addr) : Bool := (["bool", "int", "str", "list", "tuple", "dict"] : List String).all fun t => decide (PySem.W.kitOne K (.ref C) (.type t) = some false)
structure BltT (K : PySem.W.Frag) (mg : Str → Option Value) (tab : Str → Bool) : Prop where
  c : ∀ c, tab c = true → ClsF K mg c ∧ bltB K (clsA mg c) = true
def gIsiO (tab : Str → Bool) : List D → Option Sl
  | [.obj c ks ds, .ty t] => if tab c ∧ t ∈ (["bool", "int", "str", "list", "tuple", "dict"] : List String) then some (.frz (.bl false)) else none
  | l => gIsi l
theorem Fit.blt {X : Cx} {C : Cd} {tab : Str → Bool} (ft : Fit X C) (B : BltT X.K X.mg tab) : BltT C.K C.mg tab := by rw [← ft.k, ← ft.m]; exact B
theorem ok_isiO {C : Cd} {tab : Str → Bool} (B : BltT C.K C.mg tab) : CaOk C (rIsi C.K) (gIsiO tab) := by
  intro F H σ env vs ds s Q I r hg k
  unfold gIsiO at hg
  split at hg
  · rename_i c ks ds t
    split at hg
    · rename_i ht
      cases hg
      obtain ⟨x, y, rfl, rx, ry⟩ := rep2 r
      unfold Rep at ry
      subst ry
      obtain ⟨cf, hb⟩ := B.c c ht.1
      unfold Rep at rx
      obtain ⟨a, dx, xs, rfl, h1, _⟩ := rx
      refine ⟨.ref a, .ty t, .ref (clsA C.mg c), .type t, false, rfl, .ty t, .base (.ins (I.fh _ _ h1) cf.cl cf.ha cf.hn cf.ht cf.hm), of_decide_eq_true (List.all_eq_true.mp hb t ht.2), k _ F H I (.refl _) resBl⟩
    · cases hg
  · exact ok_isi F H σ env vs ds s Q I r hg k
theorem gIsiO_o {tab : Str → Bool} {c : Str} {ks : List Str} {ds : List D} {t : String} (h : tab c = true) (ht : t ∈ (["bool", "int", "str", "list", "tuple", "dict"] : List String)) : gIsiO tab [.obj c ks ds, .ty t] = some (.frz (.bl false)) := if_pos ⟨h, ht⟩
theorem gIsiO_n {tab : Str → Bool} {l : List D} : gIsiO tab (.non :: l) = gIsi (.non :: l) := by unfold gIsiO; rfl
theorem gIsiO_b {tab : Str → Bool} {b : Bool} {l : List D} : gIsiO tab (.bl b :: l) = gIsi (.bl b :: l) := by unfold gIsiO; rfl
theorem gIsiO_i {tab : Str → Bool} {i : Int} {l : List D} : gIsiO tab (.int i :: l) = gIsi (.int i :: l) := by unfold gIsiO; rfl
theorem gIsiO_s {tab : Str → Bool} {i : Str} {l : List D} : gIsiO tab (.str i :: l) = gIsi (.str i :: l) := by unfold gIsiO; rfl
theorem gIsiO_l {tab : Str → Bool} {i : List D} {l : List D} : gIsiO tab (.lst i :: l) = gIsi (.lst i :: l) := by unfold gIsiO; rfl
theorem gIsiO_t {tab : Str → Bool} {i : List D} {l : List D} : gIsiO tab (.tup i :: l) = gIsi (.tup i :: l) := by unfold gIsiO; rfl
theorem gIsiO_k {tab : Str → Bool} {a : List Key} {b : List D} {l : List D} : gIsiO tab (.dK a b :: l) = gIsi (.dK a b :: l) := by unfold gIsiO; rfl
/-! ### x.upper() -/
def gUpper : D → Option Sl
  | .str a => if a.length ≤ 5592405 then some (.frz (.str (Txt.upper a))) else none
  | _ => none
theorem qe_upper {X : Cx} {C : Cd} {o : Expr} {fo : DE} {apos pos : Pos} (ft : Fit X C) (ho : PE X o (tD C fo)) (hbase : attributeBase o "upper" X.env (eval o X.env) = eval o X.env := by rfl) (hline : (apos.endLine == pos.line) = true := by rfl) :
    PE X (.Call (.Attribute o "upper" apos) [] [] pos) (tD C (lift1 gUpper fo)) := by
  have q := pe_bm0 (apos := apos) (cpos := pos) PySem.F.plainAttrs_str PySem.F.slot_str_upper PySem.F.type_str_upper mt_upper (qz ho) hbase hline
  rw [ft.k] at q
  refine PE.weak q fun σ H Q ⟨F, env, I, h⟩ => ⟨F, env, I, (Fin.bnd h).imp fun s e F1 H1 I1 s1 h1 x rx => ?_⟩
  cases ed : s.d with
  | str a =>
    rw [ed] at rx
    simp only [ed, gUpper] at h1
    split at h1
    · rename_i z hz
      split at hz
      · rename_i hle
        cases hz
        exact ⟨by rw [rx.str]; trivial, a, rx.str, rfl, hle, h1 F1 H1 I1 (.refl _) _ (show Rep C.K C.mg F1 _ _ from rStr)⟩
      · cases hz
    · exact h1.elim
  | _ => simp only [ed, gUpper] at h1; exact h1.elim
/-! ### isinstance(e, T) in a def that is handed what was caught -/
theorem call_isY {Y : Cx} {a D : Addr} {oe : Obj} (C : ExcC Y.K D) (hz : Zc (.ref D) none oe) (hf : ∃ vs, oe.data = .fields vs) (hp : (a, oe) ∈ Y.pn) : CallR Y (.builtin "isinstance") (rIsE Y.K D a) := by
  intro pins s σ H xs us Q I r h
  obtain ⟨z, cv, b, rfl, hcv, e, q⟩ := h
  obtain ⟨u1, u2, rfl, r1, r2⟩ : ∃ u1 u2, us = [u1, u2] ∧ RelV (.ref a) u1 ∧ RelV z u2 := by
    cases r with
    | cons x1 x2 => cases x2 with
      | cons x3 x4 => cases x4; exact ⟨_, _, rfl, x1, x3⟩
  obtain rfl := hcv _ r2
  cases r1
  obtain ⟨vs, hv⟩ := hf
  have hget := (I.pin (a, oe) (List.mem_append_left _ hp)).1
  have J : PySem.W.InstAt s.heap a oe D none := by
    obtain ⟨oc, od, oda, osl⟩ := oe
    obtain ⟨rfl, rfl⟩ := hz
    cases hv
    exact ⟨hget, rfl, rfl, trivial⟩
  exact PySem.W.kia_one (PySem.W.handS_kitx_exc C.hg C.hk C.hs C.hd C.ha C.hn C.ht C.hm) I.kIn J e (fun z => nomatch z) fun tk => ⟨.bl b, H, I.kept (t' := tk) fun _ _ z => z, rfl, q⟩
theorem qe_isY {Y : Cx} {C : Cd} {oe : Obj} {cv : V} {cw : Value} {i : Nat} {sub : Str → Option Bool} {e1 e2 : Expr} {p pos : Pos} (ft : Fit Y C) (ex : ExcC C.K (clsA C.mg C.exc)) (hz : Zc (.ref (clsA C.mg C.exc)) none oe) (hf : ∃ vs, oe.data = .fields vs) (hp : (C.ex, oe) ∈ Y.pn)
    (hsub : ∀ b, sub C.exc = some b → PySem.W.kitOne C.K (.ref (clsA C.mg C.exc)) cw = some b) (hcw : ∀ u, RelV cv u → u = cw) (hg : Gl Y "isinstance") (hm : Y.mg "isinstance" = none) (h1 : PE Y e1 (tVar i)) (h2 : PE Y e2 (tC cv))
    (hx1 : starEach [e1, e2] Y.env = (false, eval e1 Y.env) :: starEach [e2] Y.env := by rfl) (hx2 : starEach [e2] Y.env = (false, eval e2 Y.env) :: starEach [] Y.env := by rfl) (hpl : (backTo pos (starEach [e2] Y.env)).any (·.1) = false := by rfl) :
    PE Y (.Call (.Name "isinstance" p) [e1, e2] [] pos) (tD C (isED i sub)) := by
  rw [← ft.k] at ex
  have q := pe_callB (X := Y) (x := "isinstance") (p := p) (pos := pos) (call_isY ex hz hf hp) hg hm (by decide +kernel) (pa_cons h1 (pa_cons h2 pa_nil hx2) hx1) (by decide) (by decide) hx1 hpl
  refine PE.weak q fun σ H Q ⟨F, env, I, h⟩ => ?_
  unfold isED at h
  cases ei : env[i]? with
  | none => rw [ei] at h; exact h.elim
  | some z =>
    rw [ei] at h
    cases z with
    | none => exact h.elim
    | some s =>
      cases s with
      | exn c' =>
        simp only at h
        obtain ⟨v, hv, e1', e2'⟩ := I.sl i _ ei
        have e2 : c' = C.exc := e2'
        have e1 : v = .ref C.ex := e1'
        subst e2 e1
        cases es : sub C.exc with
        | none => simp only [es] at h; exact h.elim
        | some b =>
          simp only [es] at h
          refine ⟨_, hv, cv, cw, b, rfl, hcw, ?_, h.here I _ (show Rep C.K C.mg F _ _ from rBl)⟩
          have := hsub b es
          rw [← ft.k] at this
          exact this
      | _ => exact h.elim
end Dd
namespace Dd
open PySem PySem.Spec PyProof.Rows L2
theorem eqM_hk {K : PySem.W.Frag} {mg : Str → Option Value} {x qual : Str} {st : Stmt} (g : mg x = some (.ref (He.ga K x))) (c : eqB K (He.ga K x) = true) (F : ∃ fd, FunD K "__eq__" qual (defArgs st) (defBody st) (defScope st) [] [] (He.ma K (He.ga K x) "__eq__") fd) : EqM K mg x qual st := by
  have q := clsA_of g
  refine ⟨?_, ?_⟩
  · unfold eqA
    rw [q]
    exact F
  · rw [q]
    exact c
theorem blt_hk {K : PySem.W.Frag} {mg : Str → Option Value} {x : Str} (g : mg x = some (.ref (He.ga K x))) (c : bltB K (He.ga K x) = true) : bltB K (clsA mg x) = true := by
  rw [clsA_of g]
  exact c
end Dd

namespace Dd
open PySem PySem.Spec PyProof.Rows L2
/-! ### evaluation: raising __init__, try, what was caught -/
def tryT (T : Out → Prop) : Out → Prop
  | .nx z => T (.nx (noExn z))
  | .bk z => T (.bk (noExn z))
  | .ct z => T (.ct (noExn z))
  | .rt s z => T (.rt s (noExn z))
def tryN (i : Nat) (T : Out → Prop) : Out → Prop
  | .nx z => T (.nx (noExn (z.set i none)))
  | .bk z => T (.bk (noExn (z.set i none)))
  | .ct z => T (.ct (noExn (z.set i none)))
  | .rt s z => T (.rt s (noExn z))
section
variable {env : DEnv} {X : Str → DEnv → Prop} {T : Out → Prop} {Q : Sl × DEnv → Prop}
theorem e_try {gb gs : DS} {i : Nat} {cl : Str → Bool} : wE (tryD gb i cl gs env) T X kq kq = wE (gb env) T (fun c e => iQ (cl c) (eQ ((noExn e).set i (some (.exn c))) (fun e2 => wE (gs e2) (tryN i T) (fun _ _ => False) kq kq) kq) False kq kq) kq kq := by
  unfold tryD
  cases e : gb env with
  | no => rfl
  | ok o => rfl
  | er c fs z =>
    cases fs with
    | cons _ _ => rfl
    | nil =>
      show wE (if cl c then _ else _) T X kq kq = iQ (cl c) _ _ kq kq
      cases cl c with
      | false => rfl
      | true =>
        simp only [if_true]
        show _ = wE (gs _) (tryN i T) (fun _ _ => False) kq kq
        cases gs ((noExn z).set i (some (.exn c))) with
        | no => rfl
        | er c fs z => cases fs <;> rfl
        | ok o => cases o <;> rfl
theorem e_callE {g : Str → R (List D) (Sl × List D)} {i : Nat} : wE (callED g i env) Q X kq kq = exQ env[i]? (fun c => wE (g c) (fun q => Q (q.1, env)) (fun _ _ => False) kq kq) kq := by
  unfold callED exQ
  cases env[i]? with
  | none => rfl
  | some o =>
    cases o with
    | none => rfl
    | some s =>
      cases s with
      | exn c =>
        simp only
        cases g c with
        | no => rfl
        | er c fs z => cases fs <;> rfl
        | ok q => rfl
      | _ => rfl
end
section
variable {X : Str → List D → Prop} {Q : Sl × List D → Prop}
theorem e_bodyBX {n : Nat} {g : DS} {ds : List D} : wE (bodyBX n g ds) Q X kq kq = eQ (envB n ds) (fun e => wE (g e) (outBQ Q) (fun c _ => X c []) kq kq) kq := by
  show _ = wE (g (envB n ds)) _ _ kq kq
  unfold bodyBX outBX
  cases g (envB n ds) with
  | no => rfl
  | er c fs z => cases fs <;> rfl
  | ok o =>
    have := e_bodyB (n := n) (g := fun _ => .ok o) (ds := ds) (Q := Q) (X := X)
    exact this
theorem e_bodyE {n : Nat} {g : DS} {c : Str} : wE (bodyE n g c) Q X kq kq = eQ (some (.exn c) :: List.replicate (n - 1) none) (fun e => wE (g e) (outQ Q) (fun c _ => X c []) kq kq) kq := by
  show _ = wE (g (some (.exn c) :: List.replicate (n - 1) none)) _ _ kq kq
  unfold bodyE
  cases g (some (.exn c) :: List.replicate (n - 1) none) with
  | no => rfl
  | er c fs z => cases fs <;> rfl
  | ok o => cases o <;> rfl
end
theorem tN_n {i : Nat} {T : Out → Prop} {z : DEnv} : tryN i T (.nx z) = eQ (noExn (z.set i none)) (fun e => T (.nx e)) kq := rfl
theorem tN_r {i : Nat} {T : Out → Prop} {s : Sl} {z : DEnv} : tryN i T (.rt s z) = eQ (noExn z) (fun e => T (.rt s e)) kq := rfl
theorem tT_n {T : Out → Prop} {z : DEnv} : tryT T (.nx z) = eQ (noExn z) (fun e => T (.nx e)) kq := rfl
theorem tT_r {T : Out → Prop} {s : Sl} {z : DEnv} : tryT T (.rt s z) = eQ (noExn z) (fun e => T (.rt s e)) kq := rfl
theorem ne_s {e : DEnv} {s : Sl} : noExn (some s :: e) = (if isExn (some s) then none else some s) :: noExn e := rfl
theorem ne_z {e : DEnv} : noExn (none :: e) = none :: noExn e := rfl
theorem ne_n : noExn [] = [] := rfl
theorem ix_f {d : D} : isExn (some (.frz d)) = false := rfl
theorem ix_o {d : D} : isExn (some (.own d)) = false := rfl
theorem ix_b {d : D} : isExn (some (.bor d)) = false := rfl
theorem ix_x {c : Str} : isExn (some (.exn c)) = true := rfl
end Dd

namespace K16
open PySem PySem.Spec PyProof.Rows L2 Dd
def topS (i : Nat) : Stmt := PySem.Challenge.pw_nestlaid_k16_styles_refused.main.body.getD i (.Pass ⟨0, 0, 0, 0⟩)
def clsS (i j : Nat) : Stmt := match topS i with
  | .ClassDef _ _ _ b _ _ _ _ _ _ _ => b.getD j (.Pass ⟨0, 0, 0, 0⟩)
  | _ => .Pass ⟨0, 0, 0, 0⟩
abbrev s_p_is_whole : Stmt := topS 12
abbrev s_p_is_count : Stmt := topS 13
abbrev s_p_is_name : Stmt := topS 17
abbrev s_p_is_one_of : Stmt := topS 18
abbrev s_Style_init : Stmt := clsS 23 0
abbrev s_Style_eq : Stmt := clsS 23 1
abbrev s_p_fields_of : Stmt := topS 24
abbrev s_p_told_fields : Stmt := topS 25
abbrev s_p_refuse_unless : Stmt := topS 26
abbrev s_p_is_size : Stmt := topS 27
abbrev s_p_is_part : Stmt := topS 28
abbrev s_p_is_tie : Stmt := topS 29
abbrev s_p_is_bound : Stmt := topS 30
abbrev s_p_are_rims : Stmt := topS 31
abbrev s_cell_at : Stmt := topS 33
abbrev s_mixed : Stmt := topS 34
abbrev s_source : Stmt := topS 35
abbrev s_next : Stmt := topS 36
abbrev s_name : Stmt := topS 37
abbrev s_number : Stmt := topS 38
abbrev s_size : Stmt := topS 39
abbrev s_values : Stmt := topS 40
abbrev s_no_count : Stmt := topS 41
abbrev s_no_name : Stmt := topS 42
abbrev s_no_size : Stmt := topS 43
abbrev s_no_rims : Stmt := topS 44
abbrev s_no_stand : Stmt := topS 45
abbrev s_spoilt : Stmt := topS 46
abbrev s_all : Stmt := topS 47
abbrev s_alone : Stmt := topS 48
abbrev s_only : Stmt := topS 49
abbrev s_refused : Stmt := topS 50
abbrev s_law : Stmt := topS 51
abbrev n_p_is_whole : List Str := ["thing"]
theorem sc_p_is_whole : FnScope n_p_is_whole ["thing"] (defScope s_p_is_whole) := ⟨rfl, rfl, rfl, by decide +kernel, rfl, by decide +kernel, by decide +kernel⟩
abbrev n_p_is_count : List Str := ["thing"]
theorem sc_p_is_count : FnScope n_p_is_count ["thing"] (defScope s_p_is_count) := ⟨rfl, rfl, rfl, by decide +kernel, rfl, by decide +kernel, by decide +kernel⟩
abbrev n_p_is_name : List Str := ["thing", "sign"]
theorem sc_p_is_name : FnScope n_p_is_name ["thing"] (defScope s_p_is_name) := ⟨rfl, rfl, rfl, by decide +kernel, rfl, by decide +kernel, by decide +kernel⟩
abbrev n_p_is_one_of : List Str := ["thing", "words"]
theorem sc_p_is_one_of : FnScope n_p_is_one_of ["thing", "words"] (defScope s_p_is_one_of) := ⟨rfl, rfl, rfl, by decide +kernel, rfl, by decide +kernel, by decide +kernel⟩
abbrev n_Style_init : List Str := ["self", "wide", "high", "least_wide", "least_high", "most_wide", "most_high", "grow", "shrink", "rims", "stand", "bounds", "bound"]
theorem sc_Style_init : FnScope n_Style_init ["self", "wide", "high", "least_wide", "least_high", "most_wide", "most_high", "grow", "shrink", "rims", "stand"] (defScope s_Style_init) := ⟨rfl, rfl, rfl, by decide +kernel, rfl, by decide +kernel, by decide +kernel⟩
abbrev n_Style_eq : List Str := ["self", "other"]
theorem sc_Style_eq : FnScope n_Style_eq ["self", "other"] (defScope s_Style_eq) := ⟨rfl, rfl, rfl, by decide +kernel, rfl, by decide +kernel, by decide +kernel⟩
abbrev n_p_fields_of : List Str := ["style"]
theorem sc_p_fields_of : FnScope n_p_fields_of ["style"] (defScope s_p_fields_of) := ⟨rfl, rfl, rfl, by decide +kernel, rfl, by decide +kernel, by decide +kernel⟩
abbrev n_p_refuse_unless : List Str := ["right", "why"]
theorem sc_p_refuse_unless : FnScope n_p_refuse_unless ["right", "why"] (defScope s_p_refuse_unless) := ⟨rfl, rfl, rfl, by decide +kernel, rfl, by decide +kernel, by decide +kernel⟩
abbrev n_p_is_size : List Str := ["thing"]
theorem sc_p_is_size : FnScope n_p_is_size ["thing"] (defScope s_p_is_size) := ⟨rfl, rfl, rfl, by decide +kernel, rfl, by decide +kernel, by decide +kernel⟩
abbrev n_p_is_part : List Str := ["thing"]
theorem sc_p_is_part : FnScope n_p_is_part ["thing"] (defScope s_p_is_part) := ⟨rfl, rfl, rfl, by decide +kernel, rfl, by decide +kernel, by decide +kernel⟩
abbrev n_p_is_tie : List Str := ["thing", "word", "name", "side", "more"]
theorem sc_p_is_tie : FnScope n_p_is_tie ["thing"] (defScope s_p_is_tie) := ⟨rfl, rfl, rfl, by decide +kernel, rfl, by decide +kernel, by decide +kernel⟩
abbrev n_p_is_bound : List Str := ["thing"]
theorem sc_p_is_bound : FnScope n_p_is_bound ["thing"] (defScope s_p_is_bound) := ⟨rfl, rfl, rfl, by decide +kernel, rfl, by decide +kernel, by decide +kernel⟩
abbrev n_p_are_rims : List Str := ["thing", "rim"]
theorem sc_p_are_rims : FnScope n_p_are_rims ["thing"] (defScope s_p_are_rims) := ⟨rfl, rfl, rfl, by decide +kernel, rfl, by decide +kernel, by decide +kernel⟩
abbrev n_cell_at : List Str := ["_law_script", "_law_k"]
theorem sc_cell_at : FnScope n_cell_at ["_law_script", "_law_k"] (defScope s_cell_at) := ⟨rfl, rfl, rfl, by decide +kernel, rfl, by decide +kernel, by decide +kernel⟩
abbrev n_mixed : List Str := ["_law_cell", "_law_k", "_law_number_here"]
theorem sc_mixed : FnScope n_mixed ["_law_cell", "_law_k"] (defScope s_mixed) := ⟨rfl, rfl, rfl, by decide +kernel, rfl, by decide +kernel, by decide +kernel⟩
abbrev n_source : List Str := ["_law_cell"]
theorem sc_source : FnScope n_source ["_law_cell"] (defScope s_source) := ⟨rfl, rfl, rfl, by decide +kernel, rfl, by decide +kernel, by decide +kernel⟩
abbrev n_next : List Str := ["_law_source_here", "_law_many", "_law_found"]
theorem sc_next : FnScope n_next ["_law_source_here", "_law_many"] (defScope s_next) := ⟨rfl, rfl, rfl, by decide +kernel, rfl, by decide +kernel, by decide +kernel⟩
abbrev n_name : List Str := ["_law_source_here", "_law_many", "_law_text", "_law_k"]
theorem sc_name : FnScope n_name ["_law_source_here", "_law_many"] (defScope s_name) := ⟨rfl, rfl, rfl, by decide +kernel, rfl, by decide +kernel, by decide +kernel⟩
abbrev n_number : List Str := ["_law_source_here"]
theorem sc_number : FnScope n_number ["_law_source_here"] (defScope s_number) := ⟨rfl, rfl, rfl, by decide +kernel, rfl, by decide +kernel, by decide +kernel⟩
abbrev n_size : List Str := ["_law_source_here", "_law_way", "_law_name_here"]
theorem sc_size : FnScope n_size ["_law_source_here"] (defScope s_size) := ⟨rfl, rfl, rfl, by decide +kernel, rfl, by decide +kernel, by decide +kernel⟩
abbrev n_values : List Str := ["_law_source_here", "_law_values_here", "_law_k"]
theorem sc_values : FnScope n_values ["_law_source_here"] (defScope s_values) := ⟨rfl, rfl, rfl, by decide +kernel, rfl, by decide +kernel, by decide +kernel⟩
abbrev n_no_count : List Str := ["_law_source_here", "_law_some"]
theorem sc_no_count : FnScope n_no_count ["_law_source_here"] (defScope s_no_count) := ⟨rfl, rfl, rfl, by decide +kernel, rfl, by decide +kernel, by decide +kernel⟩
abbrev n_no_name : List Str := ["_law_source_here", "_law_some", "_law_many", "_law_at", "_law_name_here", "_law_spoilt_here", "_law_ways"]
theorem sc_no_name : FnScope n_no_name ["_law_source_here"] (defScope s_no_name) := ⟨rfl, rfl, rfl, by decide +kernel, rfl, by decide +kernel, by decide +kernel⟩
abbrev n_no_size : List Str := ["_law_source_here", "_law_way", "_law_number_here", "_law_name_here", "_law_side", "_law_some"]
theorem sc_no_size : FnScope n_no_size ["_law_source_here"] (defScope s_no_size) := ⟨rfl, rfl, rfl, by decide +kernel, rfl, by decide +kernel, by decide +kernel⟩
abbrev n_no_rims : List Str := ["_law_source_here", "_law_edges", "_law_k", "_law_way", "_law_bad", "_law_shift"]
theorem sc_no_rims : FnScope n_no_rims ["_law_source_here"] (defScope s_no_rims) := ⟨rfl, rfl, rfl, by decide +kernel, rfl, by decide +kernel, by decide +kernel⟩
abbrev n_no_stand : List Str := ["_law_source_here", "_law_word", "_law_some"]
theorem sc_no_stand : FnScope n_no_stand ["_law_source_here"] (defScope s_no_stand) := ⟨rfl, rfl, rfl, by decide +kernel, rfl, by decide +kernel, by decide +kernel⟩
abbrev n_spoilt : List Str := ["_law_source_here", "_law_at"]
theorem sc_spoilt : FnScope n_spoilt ["_law_source_here", "_law_at"] (defScope s_spoilt) := ⟨rfl, rfl, rfl, by decide +kernel, rfl, by decide +kernel, by decide +kernel⟩
abbrev n_all : List Str := ["_law_values_here", "_law_one", "_law_two", "_law_three", "_law_four", "_law_five", "_law_six", "_law_seven", "_law_eight", "_law_nine", "_law_ten"]
theorem sc_all : FnScope n_all ["_law_values_here"] (defScope s_all) := ⟨rfl, rfl, rfl, by decide +kernel, rfl, by decide +kernel, by decide +kernel⟩
abbrev n_alone : List Str := ["_law_at", "_law_value"]
theorem sc_alone : FnScope n_alone ["_law_at", "_law_value"] (defScope s_alone) := ⟨rfl, rfl, rfl, by decide +kernel, rfl, by decide +kernel, by decide +kernel⟩
abbrev n_only : List Str := ["_law_e", "_law_marks"]
theorem sc_only : FnScope n_only ["_law_e"] (defScope s_only) := ⟨rfl, rfl, rfl, by decide +kernel, rfl, by decide +kernel, by decide +kernel⟩
abbrev n_refused : List Str := ["_law_values_here", "_law_at", "_law_e"]
theorem sc_refused : FnScope n_refused ["_law_values_here", "_law_at"] (defScope s_refused) := ⟨rfl, rfl, rfl, by decide +kernel, rfl, by decide +kernel, by decide +kernel⟩
abbrev n_law : List Str := ["_law_script", "_law_k", "_law_source_here", "_law_chosen", "_law_j", "_law_bad", "_law_at", "_law_good", "_law_values_here", "_law_thing"]
theorem sc_law : FnScope n_law ["_law_script"] (defScope s_law) := ⟨rfl, rfl, rfl, by decide +kernel, rfl, by decide +kernel, by decide +kernel⟩
structure Txt (K : PySem.W.Frag) (mg : Str → Option Value) : Prop where
  h_p_is_whole : Has K mg "is_whole" s_p_is_whole ["thing"]
  h_p_is_count : Has K mg "is_count" s_p_is_count ["thing"]
  h_p_is_name : Has K mg "is_name" s_p_is_name ["thing"]
  h_p_is_one_of : Has K mg "is_one_of" s_p_is_one_of ["thing", "words"]
  h_p_fields_of : Has K mg "fields_of" s_p_fields_of ["style"]
  h_p_refuse_unless : Has K mg "refuse_unless" s_p_refuse_unless ["right", "why"]
  h_p_is_size : Has K mg "is_size" s_p_is_size ["thing"]
  h_p_is_part : Has K mg "is_part" s_p_is_part ["thing"]
  h_p_is_tie : Has K mg "is_tie" s_p_is_tie ["thing"]
  h_p_is_bound : Has K mg "is_bound" s_p_is_bound ["thing"]
  h_p_are_rims : Has K mg "are_rims" s_p_are_rims ["thing"]
  h_cell_at : Has K mg "_law_cell_at" s_cell_at ["_law_script", "_law_k"]
  h_mixed : Has K mg "_law_mixed" s_mixed ["_law_cell", "_law_k"]
  h_source : Has K mg "_law_source" s_source ["_law_cell"]
  h_next : Has K mg "_law_next" s_next ["_law_source_here", "_law_many"]
  h_name : Has K mg "_law_name" s_name ["_law_source_here", "_law_many"]
  h_number : Has K mg "_law_number" s_number ["_law_source_here"]
  h_size : Has K mg "_law_size" s_size ["_law_source_here"]
  h_values : Has K mg "_law_values" s_values ["_law_source_here"]
  h_no_count : Has K mg "_law_no_count" s_no_count ["_law_source_here"]
  h_no_name : Has K mg "_law_no_name" s_no_name ["_law_source_here"]
  h_no_size : Has K mg "_law_no_size" s_no_size ["_law_source_here"]
  h_no_rims : Has K mg "_law_no_rims" s_no_rims ["_law_source_here"]
  h_no_stand : Has K mg "_law_no_stand" s_no_stand ["_law_source_here"]
  h_spoilt : Has K mg "_law_spoilt" s_spoilt ["_law_source_here", "_law_at"]
  h_all : Has K mg "_law_all" s_all ["_law_values_here"]
  h_alone : Has K mg "_law_alone" s_alone ["_law_at", "_law_value"]
  h_only : Has K mg "_law_only" s_only ["_law_e"]
  h_refused : Has K mg "_law_refused" s_refused ["_law_values_here", "_law_at"]
  k_LONGEST_NAME : Kon mg "LONGEST_NAME" (.int 8)
  k_LETTERS : Kon mg "LETTERS" (.str (Str.ofString "abcdefghijklmnopqrstuvwxyz"))
  k_NO_RIMS : Kon mg "NO_RIMS" (.ref (clsA mg "NO_RIMS"))
  t_NO_RIMS : TupK K (clsA mg "NO_RIMS") [(.int 0), (.int 0), (.int 0), (.int 0)]
  k_SIDES : Kon mg "SIDES" (.ref (clsA mg "SIDES"))
  t_SIDES : TupK K (clsA mg "SIDES") [(.str (Str.ofString "wide")), (.str (Str.ofString "tall"))]
  k_STANDS : Kon mg "STANDS" (.ref (clsA mg "STANDS"))
  t_STANDS : TupK K (clsA mg "STANDS") [(.str (Str.ofString "start")), (.str (Str.ofString "end")), (.str (Str.ofString "middle")), (.str (Str.ofString "stretch")), (.str (Str.ofString "base"))]
  i_Style : InitD K mg "Style" "Style.__init__" s_Style_init [("wide", .non), ("high", .non), ("least_wide", .non), ("least_high", .non), ("most_wide", .non), ("most_high", .non), ("grow", (.int 0)), ("shrink", (.int 1)), ("rims", .ref (clsA mg "NO_RIMS")), ("stand", .non)]
  c_Style : ClsF K mg "Style"
  q_Style : EqM K mg "Style" "Style.__eq__" s_Style_eq
  bl_Style : bltB K (clsA mg "Style") = true
  kT_Style : kitT K (clsA mg "Style") = true
  ko_Style_Style : PySem.W.kitOne K (.ref (clsA mg "Style")) (.ref (clsA mg "Style")) = some true
  n_Style_wide : NoAttr K (clsA mg "Style") "wide"
  n_Style_high : NoAttr K (clsA mg "Style") "high"
  n_Style_least_wide : NoAttr K (clsA mg "Style") "least_wide"
  n_Style_least_high : NoAttr K (clsA mg "Style") "least_high"
  n_Style_most_wide : NoAttr K (clsA mg "Style") "most_wide"
  n_Style_most_high : NoAttr K (clsA mg "Style") "most_high"
  n_Style_grow : NoAttr K (clsA mg "Style") "grow"
  n_Style_shrink : NoAttr K (clsA mg "Style") "shrink"
  n_Style_rims : NoAttr K (clsA mg "Style") "rims"
  n_Style_stand : NoAttr K (clsA mg "Style") "stand"
  e_NoStyle : ErrC K mg "NoStyle"
  c_NoStyle_NestError : Caught K mg "NoStyle" "NestError"
  kt_NoStyle_NoName : KitC K mg "NoStyle" "NoName" false
  kt_NoStyle_NoNumber : KitC K mg "NoStyle" "NoNumber" false
  kt_NoStyle_NoText : KitC K mg "NoStyle" "NoText" false
  kt_NoStyle_NoBox : KitC K mg "NoStyle" "NoBox" false
  kt_NoStyle_NoStand : KitC K mg "NoStyle" "NoStand" false
  kt_NoStyle_NoTree : KitC K mg "NoStyle" "NoTree" false
  kt_NoStyle_NoTruth : KitC K mg "NoStyle" "NoTruth" false
  kt_NoStyle_NoRow : KitC K mg "NoStyle" "NoRow" false
  kt_NoStyle_NoStyle : KitC K mg "NoStyle" "NoStyle" true
  kv_NoStyle_ValueError : PySem.W.kitOne K (.ref (clsA mg "NoStyle")) (.type "ValueError") = some true
  m_isinstance : mg "isinstance" = none
  m_int : mg "int" = none
  m_bool : mg "bool" = none
  m_all : mg "all" = none
  m_str : mg "str" = none
  m_len : mg "len" = none
  m_tuple : mg "tuple" = none
  m_range : mg "range" = none
  m_ValueError : mg "ValueError" = none
  m_any : mg "any" = none
  m_max : mg "max" = none
  m_list : mg "list" = none
  m_zip : mg "zip" = none
  m_min : mg "min" = none
section
variable {K : PySem.W.Frag} {mg : Str → Option Value}
theorem kr_LONGEST_NAME (T : Txt K mg) : ∀ F, Rep K mg F (.int 8) (.int 8) := fun F => rInt
theorem kr_LETTERS (T : Txt K mg) : ∀ F, Rep K mg F (.str (Str.ofString "abcdefghijklmnopqrstuvwxyz")) (.str (Str.ofString "abcdefghijklmnopqrstuvwxyz")) := fun F => rStr
theorem kr_NO_RIMS (T : Txt K mg) : ∀ F, Rep K mg F (.tup [(.int 0), (.int 0), (.int 0), (.int 0)]) (.ref (clsA mg "NO_RIMS")) := fun F => rep_TupK T.t_NO_RIMS (repCons rInt (repCons rInt (repCons rInt (repCons rInt repNil))))
theorem kr_SIDES (T : Txt K mg) : ∀ F, Rep K mg F (.tup [(.str (Str.ofString "wide")), (.str (Str.ofString "tall"))]) (.ref (clsA mg "SIDES")) := fun F => rep_TupK T.t_SIDES (repCons rStr (repCons rStr repNil))
theorem kr_STANDS (T : Txt K mg) : ∀ F, Rep K mg F (.tup [(.str (Str.ofString "start")), (.str (Str.ofString "end")), (.str (Str.ofString "middle")), (.str (Str.ofString "stretch")), (.str (Str.ofString "base"))]) (.ref (clsA mg "STANDS")) := fun F => rep_TupK T.t_STANDS (repCons rStr (repCons rStr (repCons rStr (repCons rStr (repCons rStr repNil)))))
def df_Style : List D := [.non, .non, .non, .non, .non, .non, (.int 0), (.int 1), (.tup [(.int 0), (.int 0), (.int 0), (.int 0)]), .non]
def dv_Style (mg : Str → Option Value) : List V := [.non, .non, .non, .non, .non, .non, (.int 0), (.int 1), .ref (clsA mg "NO_RIMS"), .non]
theorem dr_Style (T : Txt K mg) : ∀ F, RepL K mg F df_Style (dv_Style mg) := fun F => (repCons rNon (repCons rNon (repCons rNon (repCons rNon (repCons rNon (repCons rNon (repCons rInt (repCons rInt (repCons (kr_NO_RIMS T F) (repCons rNon repNil))))))))))
theorem dm_Style (K : PySem.W.Frag) (mg : Str → Option Value) : ∀ q ∈ (["wide", "high", "least_wide", "least_high", "most_wide", "most_high", "grow", "shrink", "rims", "stand"] : List Str).zip (dv_Style mg), q ∈ ([("wide", .non), ("high", .non), ("least_wide", .non), ("least_high", .non), ("most_wide", .non), ("most_high", .non), ("grow", (.int 0)), ("shrink", (.int 1)), ("rims", .ref (clsA mg "NO_RIMS")), ("stand", .non)] : List (Str × V)) := fun q h => h
def bt_objs (c : Str) : Bool := c == "Style"
theorem bt_of (T : Txt K mg) : BltT K mg bt_objs := ⟨fun c h => by
  simp only [bt_objs, Bool.or_eq_true, beq_iff_eq] at h
  rcases h with h
  · subst h; exact ⟨T.c_Style, T.bl_Style⟩⟩
def ow_Style (c : Str) : Option Bool := if c = "Style" then some true else none
theorem own_Style (T : Txt K mg) : OwnT K mg "Style" ow_Style := ⟨T.c_Style.g, T.kT_Style, fun c b h => by
  unfold ow_Style at h
  split at h
  · rename_i e; cases h; subst e; exact ⟨T.c_Style, T.ko_Style_Style⟩
  cases h⟩
def at_wide (c : Str) : Bool := c == "Style"
theorem at_wide_of (T : Txt K mg) : AtT K mg at_wide "wide" := by
  intro c h
  simp only [at_wide, Bool.or_eq_true, beq_iff_eq] at h
  rcases h with h
  · subst h; exact ⟨T.c_Style.cl, T.n_Style_wide⟩
def at_high (c : Str) : Bool := c == "Style"
theorem at_high_of (T : Txt K mg) : AtT K mg at_high "high" := by
  intro c h
  simp only [at_high, Bool.or_eq_true, beq_iff_eq] at h
  rcases h with h
  · subst h; exact ⟨T.c_Style.cl, T.n_Style_high⟩
def at_least_wide (c : Str) : Bool := c == "Style"
theorem at_least_wide_of (T : Txt K mg) : AtT K mg at_least_wide "least_wide" := by
  intro c h
  simp only [at_least_wide, Bool.or_eq_true, beq_iff_eq] at h
  rcases h with h
  · subst h; exact ⟨T.c_Style.cl, T.n_Style_least_wide⟩
def at_least_high (c : Str) : Bool := c == "Style"
theorem at_least_high_of (T : Txt K mg) : AtT K mg at_least_high "least_high" := by
  intro c h
  simp only [at_least_high, Bool.or_eq_true, beq_iff_eq] at h
  rcases h with h
  · subst h; exact ⟨T.c_Style.cl, T.n_Style_least_high⟩
def at_most_wide (c : Str) : Bool := c == "Style"
theorem at_most_wide_of (T : Txt K mg) : AtT K mg at_most_wide "most_wide" := by
  intro c h
  simp only [at_most_wide, Bool.or_eq_true, beq_iff_eq] at h
  rcases h with h
  · subst h; exact ⟨T.c_Style.cl, T.n_Style_most_wide⟩
def at_most_high (c : Str) : Bool := c == "Style"
theorem at_most_high_of (T : Txt K mg) : AtT K mg at_most_high "most_high" := by
  intro c h
  simp only [at_most_high, Bool.or_eq_true, beq_iff_eq] at h
  rcases h with h
  · subst h; exact ⟨T.c_Style.cl, T.n_Style_most_high⟩
def at_grow (c : Str) : Bool := c == "Style"
theorem at_grow_of (T : Txt K mg) : AtT K mg at_grow "grow" := by
  intro c h
  simp only [at_grow, Bool.or_eq_true, beq_iff_eq] at h
  rcases h with h
  · subst h; exact ⟨T.c_Style.cl, T.n_Style_grow⟩
def at_shrink (c : Str) : Bool := c == "Style"
theorem at_shrink_of (T : Txt K mg) : AtT K mg at_shrink "shrink" := by
  intro c h
  simp only [at_shrink, Bool.or_eq_true, beq_iff_eq] at h
  rcases h with h
  · subst h; exact ⟨T.c_Style.cl, T.n_Style_shrink⟩
def at_rims (c : Str) : Bool := c == "Style"
theorem at_rims_of (T : Txt K mg) : AtT K mg at_rims "rims" := by
  intro c h
  simp only [at_rims, Bool.or_eq_true, beq_iff_eq] at h
  rcases h with h
  · subst h; exact ⟨T.c_Style.cl, T.n_Style_rims⟩
def at_stand (c : Str) : Bool := c == "Style"
theorem at_stand_of (T : Txt K mg) : AtT K mg at_stand "stand" := by
  intro c h
  simp only [at_stand, Bool.or_eq_true, beq_iff_eq] at h
  rcases h with h
  · subst h; exact ⟨T.c_Style.cl, T.n_Style_stand⟩
theorem gC_NoStyle (T : Txt K mg) : mg "NoStyle" = some (.ref (clsA mg "NoStyle")) := T.e_NoStyle.g
theorem gC_NestError (T : Txt K mg) : mg "NestError" = some (.ref (clsA mg "NestError")) := T.c_NoStyle_NestError.g
theorem gC_NoName (T : Txt K mg) : mg "NoName" = some (.ref (clsA mg "NoName")) := T.kt_NoStyle_NoName.g
theorem gC_NoNumber (T : Txt K mg) : mg "NoNumber" = some (.ref (clsA mg "NoNumber")) := T.kt_NoStyle_NoNumber.g
theorem gC_NoText (T : Txt K mg) : mg "NoText" = some (.ref (clsA mg "NoText")) := T.kt_NoStyle_NoText.g
theorem gC_NoBox (T : Txt K mg) : mg "NoBox" = some (.ref (clsA mg "NoBox")) := T.kt_NoStyle_NoBox.g
theorem gC_NoStand (T : Txt K mg) : mg "NoStand" = some (.ref (clsA mg "NoStand")) := T.kt_NoStyle_NoStand.g
theorem gC_NoTree (T : Txt K mg) : mg "NoTree" = some (.ref (clsA mg "NoTree")) := T.kt_NoStyle_NoTree.g
theorem gC_NoTruth (T : Txt K mg) : mg "NoTruth" = some (.ref (clsA mg "NoTruth")) := T.kt_NoStyle_NoTruth.g
theorem gC_NoRow (T : Txt K mg) : mg "NoRow" = some (.ref (clsA mg "NoRow")) := T.kt_NoStyle_NoRow.g
def cl_NestError (c : Str) : Bool := c == "NoStyle"
theorem caught_NestError (T : Txt K mg) : ∀ c, cl_NestError c = true → PySem.W.exmOne K (.ref (clsA mg c)) (.ref (clsA mg "NestError")) = some true := by
  intro c h
  simp only [cl_NestError, Bool.or_eq_true, beq_iff_eq] at h
  rcases h with h
  · subst h; exact T.c_NoStyle_NestError.m
theorem exc_of (T : Txt K mg) {c : Str} (h : cl_NestError c = true) : ExcC K (clsA mg c) := by
  simp only [cl_NestError, Bool.or_eq_true, beq_iff_eq] at h
  rcases h with h
  · subst h; exact T.e_NoStyle.e
def sub_NoBox (c : Str) : Option Bool := if c = "NoStyle" then some false else none
theorem sub_NoBox_of (T : Txt K mg) {c : Str} {b : Bool} (h : sub_NoBox c = some b) : PySem.W.kitOne K (.ref (clsA mg c)) (.ref (clsA mg "NoBox")) = some b := by
  unfold sub_NoBox at h
  by_cases e : c = "NoStyle"
  · rw [if_pos e] at h
    subst e
    rw [← h]
    exact T.kt_NoStyle_NoBox.m
  rw [if_neg e] at h
  cases h
def sub_NoName (c : Str) : Option Bool := if c = "NoStyle" then some false else none
theorem sub_NoName_of (T : Txt K mg) {c : Str} {b : Bool} (h : sub_NoName c = some b) : PySem.W.kitOne K (.ref (clsA mg c)) (.ref (clsA mg "NoName")) = some b := by
  unfold sub_NoName at h
  by_cases e : c = "NoStyle"
  · rw [if_pos e] at h
    subst e
    rw [← h]
    exact T.kt_NoStyle_NoName.m
  rw [if_neg e] at h
  cases h
def sub_NoNumber (c : Str) : Option Bool := if c = "NoStyle" then some false else none
theorem sub_NoNumber_of (T : Txt K mg) {c : Str} {b : Bool} (h : sub_NoNumber c = some b) : PySem.W.kitOne K (.ref (clsA mg c)) (.ref (clsA mg "NoNumber")) = some b := by
  unfold sub_NoNumber at h
  by_cases e : c = "NoStyle"
  · rw [if_pos e] at h
    subst e
    rw [← h]
    exact T.kt_NoStyle_NoNumber.m
  rw [if_neg e] at h
  cases h
def sub_NoRow (c : Str) : Option Bool := if c = "NoStyle" then some false else none
theorem sub_NoRow_of (T : Txt K mg) {c : Str} {b : Bool} (h : sub_NoRow c = some b) : PySem.W.kitOne K (.ref (clsA mg c)) (.ref (clsA mg "NoRow")) = some b := by
  unfold sub_NoRow at h
  by_cases e : c = "NoStyle"
  · rw [if_pos e] at h
    subst e
    rw [← h]
    exact T.kt_NoStyle_NoRow.m
  rw [if_neg e] at h
  cases h
def sub_NoStand (c : Str) : Option Bool := if c = "NoStyle" then some false else none
theorem sub_NoStand_of (T : Txt K mg) {c : Str} {b : Bool} (h : sub_NoStand c = some b) : PySem.W.kitOne K (.ref (clsA mg c)) (.ref (clsA mg "NoStand")) = some b := by
  unfold sub_NoStand at h
  by_cases e : c = "NoStyle"
  · rw [if_pos e] at h
    subst e
    rw [← h]
    exact T.kt_NoStyle_NoStand.m
  rw [if_neg e] at h
  cases h
def sub_NoStyle (c : Str) : Option Bool := if c = "NoStyle" then some true else none
theorem sub_NoStyle_of (T : Txt K mg) {c : Str} {b : Bool} (h : sub_NoStyle c = some b) : PySem.W.kitOne K (.ref (clsA mg c)) (.ref (clsA mg "NoStyle")) = some b := by
  unfold sub_NoStyle at h
  by_cases e : c = "NoStyle"
  · rw [if_pos e] at h
    subst e
    rw [← h]
    exact T.kt_NoStyle_NoStyle.m
  rw [if_neg e] at h
  cases h
def sub_NoText (c : Str) : Option Bool := if c = "NoStyle" then some false else none
theorem sub_NoText_of (T : Txt K mg) {c : Str} {b : Bool} (h : sub_NoText c = some b) : PySem.W.kitOne K (.ref (clsA mg c)) (.ref (clsA mg "NoText")) = some b := by
  unfold sub_NoText at h
  by_cases e : c = "NoStyle"
  · rw [if_pos e] at h
    subst e
    rw [← h]
    exact T.kt_NoStyle_NoText.m
  rw [if_neg e] at h
  cases h
def sub_NoTree (c : Str) : Option Bool := if c = "NoStyle" then some false else none
theorem sub_NoTree_of (T : Txt K mg) {c : Str} {b : Bool} (h : sub_NoTree c = some b) : PySem.W.kitOne K (.ref (clsA mg c)) (.ref (clsA mg "NoTree")) = some b := by
  unfold sub_NoTree at h
  by_cases e : c = "NoStyle"
  · rw [if_pos e] at h
    subst e
    rw [← h]
    exact T.kt_NoStyle_NoTree.m
  rw [if_neg e] at h
  cases h
def sub_NoTruth (c : Str) : Option Bool := if c = "NoStyle" then some false else none
theorem sub_NoTruth_of (T : Txt K mg) {c : Str} {b : Bool} (h : sub_NoTruth c = some b) : PySem.W.kitOne K (.ref (clsA mg c)) (.ref (clsA mg "NoTruth")) = some b := by
  unfold sub_NoTruth at h
  by_cases e : c = "NoStyle"
  · rw [if_pos e] at h
    subst e
    rw [← h]
    exact T.kt_NoStyle_NoTruth.m
  rw [if_neg e] at h
  cases h
def sub_ValueError (c : Str) : Option Bool := if c = "NoStyle" then some true else none
theorem sub_ValueError_of (T : Txt K mg) {c : Str} {b : Bool} (h : sub_ValueError c = some b) : PySem.W.kitOne K (.ref (clsA mg c)) (.type "ValueError") = some b := by
  unfold sub_ValueError at h
  by_cases e : c = "NoStyle"
  · rw [if_pos e] at h
    subst e
    rw [← h]
    exact T.kv_NoStyle_ValueError
  rw [if_neg e] at h
  cases h
end
def d_p_is_whole : DS :=
    (retD (andV (callG (gIsiO bt_objs) [(nameD 0), (conD (.ty "int"))]) (notV (callG (gIsiO bt_objs) [(nameD 0), (conD (.ty "bool"))]))))
def D_p_is_whole : DF := bodyF 1 d_p_is_whole
theorem ok_p_is_whole {P : Program} {w : World} {K : PySem.W.Frag} {mg : Str → Option Value} {base : Heap} (T : Txt K mg) : Ok P w K mg base CX0 "is_whole" s_p_is_whole 1 ["thing"] (sp0 K mg 1 D_p_is_whole) := by
  exact T.h_p_is_whole.okD (N := n_p_is_whole) (g := d_p_is_whole) sc_p_is_whole (fun f cdv A outer s H E F hr ft => (qss_one (qs_ret (qe_and (qe_callB' (ca_isi ft) (ok_isiO (Fit.blt ft (bt_of T))) (by rfl) T.m_isinstance (by decide +kernel) (qa_cons (qe_name (pv 0)) (qa_cons (qe_ty (by rfl) T.m_int (by decide +kernel)) qa_nil))) (qe_one (qe_not (qe_callB' (ca_isi ft) (ok_isiO (Fit.blt ft (bt_of T))) (by rfl) T.m_isinstance (by decide +kernel) (qa_cons (qe_name (pv 0)) (qa_cons (qe_ty (by rfl) T.m_bool (by decide +kernel)) qa_nil)))))))))
def d_p_is_count : DS :=
    (retD (andV (callD D_p_is_whole [(nameD 0)]) (lift2 gGe (nameD 0) (conD (.int 0)))))
def D_p_is_count : DF := bodyF 1 d_p_is_count
theorem ok_p_is_count {P : Program} {w : World} {K : PySem.W.Frag} {mg : Str → Option Value} {base : Heap} (T : Txt K mg) : Ok P w K mg base CX0 "is_count" s_p_is_count 2 ["thing"] (sp0 K mg 1 D_p_is_count) := by
  have O_p_is_whole := ok_p_is_whole (P := P) (w := w) (base := base) T
  exact T.h_p_is_count.okD (N := n_p_is_count) (g := d_p_is_count) sc_p_is_count (fun f cdv A outer s H E F hr ft => (qss_one (qs_ret (qe_and (qe_call ft O_p_is_whole rfl (hr.mono (by decide)) (by rfl) (qa_cons (qe_name (pv 0)) qa_nil)) (qe_one (qe_cmp op_ge ok_ge (qe_name (pv 0)) qe_int (nomark _)))))))
def d_p_is_name : DS :=
    (seqD (ifD (orT (notT (boolT (callG (gIsiO bt_objs) [(nameD 0), (conD (.ty "str"))]))) (orT (boolT (lift2 gLt (callG gLen [(nameD 0)]) (conD (.int 1)))) (boolT (lift2 gGt (callG gLen [(nameD 0)]) (conD (.int 8))))))
    (retD (conD (.bl false)))
    nextD)
    (retD (callG gAll [(compD (iterE (nameD 0)) (gNameD 1) yesT (lift2 (gIn false) (nameD 1) (conD (.str (Str.ofString "abcdefghijklmnopqrstuvwxyz")))) [1] [])])))
def D_p_is_name : DF := bodyF 2 d_p_is_name
theorem ok_p_is_name {P : Program} {w : World} {K : PySem.W.Frag} {mg : Str → Option Value} {base : Heap} (T : Txt K mg) : Ok P w K mg base CX0 "is_name" s_p_is_name 1 ["thing"] (sp0 K mg 1 D_p_is_name) := by
  exact T.h_p_is_name.okD (N := n_p_is_name) (g := d_p_is_name) sc_p_is_name (fun f cdv A outer s H E F hr ft => (qss_cons (qs_if (PW.pt (qw_or (qt_not (qt_val (qe_callB' (ca_isi ft) (ok_isiO (Fit.blt ft (bt_of T))) (by rfl) T.m_isinstance (by decide +kernel) (qa_cons (qe_name (pv 0)) (qa_cons (qe_ty (by rfl) T.m_str (by decide +kernel)) qa_nil))))) (qw_or (qt_cmp op_lt ok_lt (qe_callB' (ca_len ft) ok_len (by rfl) T.m_len (by decide +kernel) (qa_cons (qe_name (pv 0)) qa_nil)) qe_int (nomark _)) (qw_or1 (qt_cmp op_gt ok_gt (qe_callB' (ca_len ft) ok_len (by rfl) T.m_len (by decide +kernel) (qa_cons (qe_name (pv 0)) qa_nil)) (qe_kon ft T.k_LONGEST_NAME (kr_LONGEST_NAME T) (by rfl)) (nomark _))))))
      (qss_one (qs_ret qe_bl))
      qss_nil)
      (qss_one (qs_ret (qe_callB' (ca_all ft rfl) ok_all (by rfl) T.m_all (by decide +kernel) (qa_cons (qe_lc (own := [("sign", 1)]) (zs := []) (by rfl) sc_p_is_name.nd (qi_seq ft (qe_name (pv 0))) (blkOk_by (own := [("sign", 1)]) (N := n_p_is_name) (sc := defScope s_p_is_name) (by decide +kernel)) (fun _ _ _ _ _ _ gn1 => (qg_name (i := 1) sc_p_is_name.nd rfl (by first | exact Or.inl rfl | exact Or.inr rfl))) (fun _ _ _ _ _ _ gn1 => qts_nil) (fun _ _ _ _ _ _ gn1 => (qe_cmp (op_inA (Fit.blk ft gn1)) ok_in (qe_name (pv 1)) (qe_kon (Fit.blk ft gn1) T.k_LETTERS (kr_LETTERS T) (by rfl)) (by rfl)))) qa_nil))))))
def d_p_is_one_of : DS :=
    (retD (andV (callG (gIsiO bt_objs) [(nameD 0), (conD (.ty "str"))]) (lift2 (gIn false) (nameD 0) (nameD 1))))
def D_p_is_one_of : DF := bodyF 2 d_p_is_one_of
theorem ok_p_is_one_of {P : Program} {w : World} {K : PySem.W.Frag} {mg : Str → Option Value} {base : Heap} (T : Txt K mg) : Ok P w K mg base CX0 "is_one_of" s_p_is_one_of 1 ["thing", "words"] (sp0 K mg 2 D_p_is_one_of) := by
  exact T.h_p_is_one_of.okD (N := n_p_is_one_of) (g := d_p_is_one_of) sc_p_is_one_of (fun f cdv A outer s H E F hr ft => (qss_one (qs_ret (qe_and (qe_callB' (ca_isi ft) (ok_isiO (Fit.blt ft (bt_of T))) (by rfl) T.m_isinstance (by decide +kernel) (qa_cons (qe_name (pv 0)) (qa_cons (qe_ty (by rfl) T.m_str (by decide +kernel)) qa_nil))) (qe_one (qe_cmp (op_inA ft) ok_in (qe_name (pv 0)) (qe_name (pv 1)) (by rfl)))))))
def d_p_fields_of : DS :=
    (retD (lstD [(tupD [(conD (.str (Str.ofString "wide"))), (attrD at_wide "wide" (nameD 0)), (conD .non)]), (tupD [(conD (.str (Str.ofString "high"))), (attrD at_high "high" (nameD 0)), (conD .non)]), (tupD [(conD (.str (Str.ofString "least_wide"))), (attrD at_least_wide "least_wide" (nameD 0)), (conD .non)]), (tupD [(conD (.str (Str.ofString "least_high"))), (attrD at_least_high "least_high" (nameD 0)), (conD .non)]), (tupD [(conD (.str (Str.ofString "most_wide"))), (attrD at_most_wide "most_wide" (nameD 0)), (conD .non)]), (tupD [(conD (.str (Str.ofString "most_high"))), (attrD at_most_high "most_high" (nameD 0)), (conD .non)]), (tupD [(conD (.str (Str.ofString "grow"))), (attrD at_grow "grow" (nameD 0)), (conD (.int 0))]), (tupD [(conD (.str (Str.ofString "shrink"))), (attrD at_shrink "shrink" (nameD 0)), (conD (.int 1))]), (tupD [(conD (.str (Str.ofString "rims"))), (attrD at_rims "rims" (nameD 0)), (conD (.tup [(.int 0), (.int 0), (.int 0), (.int 0)]))]), (tupD [(conD (.str (Str.ofString "stand"))), (attrD at_stand "stand" (nameD 0)), (conD .non)])]))
def D_p_fields_of : DF := bodyF 1 d_p_fields_of
theorem ok_p_fields_of {P : Program} {w : World} {K : PySem.W.Frag} {mg : Str → Option Value} {base : Heap} (T : Txt K mg) : Ok P w K mg base CX0 "fields_of" s_p_fields_of 1 ["style"] (sp0 K mg 1 D_p_fields_of) := by
  exact T.h_p_fields_of.okD (N := n_p_fields_of) (g := d_p_fields_of) sc_p_fields_of (fun f cdv A outer s H E F hr ft => (qss_one (qs_ret (qe_lst (qa_cons (qe_tup (qa_cons qe_str (qa_cons (qe_attr ft (at_wide_of T) (qe_name (pv 0))) (qa_cons qe_non qa_nil)))) (qa_cons (qe_tup (qa_cons qe_str (qa_cons (qe_attr ft (at_high_of T) (qe_name (pv 0))) (qa_cons qe_non qa_nil)))) (qa_cons (qe_tup (qa_cons qe_str (qa_cons (qe_attr ft (at_least_wide_of T) (qe_name (pv 0))) (qa_cons qe_non qa_nil)))) (qa_cons (qe_tup (qa_cons qe_str (qa_cons (qe_attr ft (at_least_high_of T) (qe_name (pv 0))) (qa_cons qe_non qa_nil)))) (qa_cons (qe_tup (qa_cons qe_str (qa_cons (qe_attr ft (at_most_wide_of T) (qe_name (pv 0))) (qa_cons qe_non qa_nil)))) (qa_cons (qe_tup (qa_cons qe_str (qa_cons (qe_attr ft (at_most_high_of T) (qe_name (pv 0))) (qa_cons qe_non qa_nil)))) (qa_cons (qe_tup (qa_cons qe_str (qa_cons (qe_attr ft (at_grow_of T) (qe_name (pv 0))) (qa_cons qe_int qa_nil)))) (qa_cons (qe_tup (qa_cons qe_str (qa_cons (qe_attr ft (at_shrink_of T) (qe_name (pv 0))) (qa_cons qe_int qa_nil)))) (qa_cons (qe_tup (qa_cons qe_str (qa_cons (qe_attr ft (at_rims_of T) (qe_name (pv 0))) (qa_cons (qe_kon ft T.k_NO_RIMS (kr_NO_RIMS T) (by rfl)) qa_nil)))) (qa_cons (qe_tup (qa_cons qe_str (qa_cons (qe_attr ft (at_stand_of T) (qe_name (pv 0))) (qa_cons qe_non qa_nil)))) qa_nil))))))))))))))
def d_p_refuse_unless : DS :=
    (ifD (notT (boolT (nameD 0)))
    (raiseED "NoStyle" (nameD 1))
    nextD)
def D_p_refuse_unless : DF := bodyF 2 d_p_refuse_unless
theorem okX_p_refuse_unless {P : Program} {w : World} {K : PySem.W.Frag} {mg : Str → Option Value} {base : Heap} (T : Txt K mg) : Ok P w K mg base (L2N.CX P w) "refuse_unless" s_p_refuse_unless 1 ["right", "why"] (spP K mg 2 D_p_refuse_unless) := by
  exact T.h_p_refuse_unless.okDXN (N := n_p_refuse_unless) (g := d_p_refuse_unless) sc_p_refuse_unless (fun f cdv A outer s H E F hr ft => (with_tkN (fun tk => (qss_one (qs_if (qt_not (qt_val (qe_name (pv 0))))
      (qss_one (qs_raiseEN rfl tk (pmk_ownN PySem.F.excBase_ValueError T.e_NoStyle.xi T.e_NoStyle.g T.e_NoStyle.k (raises_own T.e_NoStyle.b T.e_NoStyle.t) (by rfl) (qe_name (pv 1)))))
      qss_nil))) (L2N.takes_of rfl rfl rfl rfl)))
theorem ok_p_refuse_unless {P : Program} {w : World} {K : PySem.W.Frag} {mg : Str → Option Value} {base : Heap} (T : Txt K mg) : Ok P w K mg base CX0 "refuse_unless" s_p_refuse_unless 1 ["right", "why"] (sp0 K mg 2 D_p_refuse_unless) := by
  exact T.h_p_refuse_unless.okD (N := n_p_refuse_unless) (g := d_p_refuse_unless) sc_p_refuse_unless (fun f cdv A outer s H E F hr ft => (qss_one (qs_if (qt_not (qt_val (qe_name (pv 0))))
      (qss_one (qs_raiseE0 rfl))
      qss_nil)))
def d_p_is_part : DS :=
    (retD (andV (callG (gIsiO bt_objs) [(nameD 0), (conD (.ty "tuple"))]) (andV (lift2 (gEq false) (callG gLen [(nameD 0)]) (conD (.int 2))) (andV (callD D_p_is_one_of [(lift2 gIx (nameD 0) (conD (.int 0))), (tupD [(conD (.str (Str.ofString "part")))])]) (callD D_p_is_count [(lift2 gIx (nameD 0) (conD (.int 1)))])))))
def D_p_is_part : DF := bodyF 1 d_p_is_part
theorem ok_p_is_part {P : Program} {w : World} {K : PySem.W.Frag} {mg : Str → Option Value} {base : Heap} (T : Txt K mg) : Ok P w K mg base CX0 "is_part" s_p_is_part 3 ["thing"] (sp0 K mg 1 D_p_is_part) := by
  have O_p_is_one_of := ok_p_is_one_of (P := P) (w := w) (base := base) T
  have O_p_is_count := ok_p_is_count (P := P) (w := w) (base := base) T
  exact T.h_p_is_part.okD (N := n_p_is_part) (g := d_p_is_part) sc_p_is_part (fun f cdv A outer s H E F hr ft => (qss_one (qs_ret (qe_and (qe_callB' (ca_isi ft) (ok_isiO (Fit.blt ft (bt_of T))) (by rfl) T.m_isinstance (by decide +kernel) (qa_cons (qe_name (pv 0)) (qa_cons (qe_ty (by rfl) T.m_tuple (by decide +kernel)) qa_nil))) (qe_and (qe_cmp (op_eqA ft hr.units) ok_eq (qe_callB' (ca_len ft) ok_len (by rfl) T.m_len (by decide +kernel) (qa_cons (qe_name (pv 0)) qa_nil)) qe_int (nomark _)) (qe_and (qe_call ft O_p_is_one_of rfl (hr.mono (by decide)) (by rfl) (qa_cons (qe_ix ft (qe_name (pv 0)) qe_int) (qa_cons (qe_tup (qa_cons qe_str qa_nil)) qa_nil))) (qe_one (qe_call ft O_p_is_count rfl (hr.mono (by decide)) (by rfl) (qa_cons (qe_ix ft (qe_name (pv 0)) qe_int) qa_nil)))))))))
def d_p_is_tie : DS :=
    (seqD (ifD (orT (notT (boolT (callG (gIsiO bt_objs) [(nameD 0), (conD (.ty "tuple"))]))) (boolT (lift2 (gEq true) (callG gLen [(nameD 0)]) (conD (.int 4)))))
    (retD (conD (.bl false)))
    nextD)
    (seqD (asgD (gTupD 4 (gConsD (gNameD 1) (gConsD (gNameD 2) (gConsD (gNameD 3) (gConsD (gNameD 4) gNilD))))) (nameD 0))
    (retD (andV (callD D_p_is_one_of [(nameD 1), (tupD [(conD (.str (Str.ofString "as")))])]) (andV (callD D_p_is_name [(nameD 2)]) (andV (callD D_p_is_one_of [(nameD 3), (conD (.tup [(.str (Str.ofString "wide")), (.str (Str.ofString "tall"))]))]) (callD D_p_is_whole [(nameD 4)])))))))
def D_p_is_tie : DF := bodyF 5 d_p_is_tie
theorem ok_p_is_tie {P : Program} {w : World} {K : PySem.W.Frag} {mg : Str → Option Value} {base : Heap} (T : Txt K mg) : Ok P w K mg base CX0 "is_tie" s_p_is_tie 2 ["thing"] (sp0 K mg 1 D_p_is_tie) := by
  have O_p_is_one_of := ok_p_is_one_of (P := P) (w := w) (base := base) T
  have O_p_is_name := ok_p_is_name (P := P) (w := w) (base := base) T
  have O_p_is_whole := ok_p_is_whole (P := P) (w := w) (base := base) T
  exact T.h_p_is_tie.okD (N := n_p_is_tie) (g := d_p_is_tie) sc_p_is_tie (fun f cdv A outer s H E F hr ft => (qss_cons (qs_if (PW.pt (qw_or (qt_not (qt_val (qe_callB' (ca_isi ft) (ok_isiO (Fit.blt ft (bt_of T))) (by rfl) T.m_isinstance (by decide +kernel) (qa_cons (qe_name (pv 0)) (qa_cons (qe_ty (by rfl) T.m_tuple (by decide +kernel)) qa_nil))))) (qw_or1 (qt_cmp (op_neA ft hr.units) ok_ne (qe_callB' (ca_len ft) ok_len (by rfl) T.m_len (by decide +kernel) (qa_cons (qe_name (pv 0)) qa_nil)) qe_int (nomark _)))))
      (qss_one (qs_ret qe_bl))
      qss_nil)
      (qss_cons (qs_asg (qe_name (pv 0)) (qg_tup ft rfl (qgs_cons (qg_name (i := 1) sc_p_is_tie.nd rfl (by first | exact Or.inl rfl | exact Or.inr rfl)) (qgs_cons (qg_name (i := 2) sc_p_is_tie.nd rfl (by first | exact Or.inl rfl | exact Or.inr rfl)) (qgs_cons (qg_name (i := 3) sc_p_is_tie.nd rfl (by first | exact Or.inl rfl | exact Or.inr rfl)) (qgs_cons (qg_name (i := 4) sc_p_is_tie.nd rfl (by first | exact Or.inl rfl | exact Or.inr rfl)) qgs_nil))))))
      (qss_one (qs_ret (qe_and (qe_call ft O_p_is_one_of rfl (hr.mono (by decide)) (by rfl) (qa_cons (qe_name (pv 1)) (qa_cons (qe_tup (qa_cons qe_str qa_nil)) qa_nil))) (qe_and (qe_call ft O_p_is_name rfl (hr.mono (by decide)) (by rfl) (qa_cons (qe_name (pv 2)) qa_nil)) (qe_and (qe_call ft O_p_is_one_of rfl (hr.mono (by decide)) (by rfl) (qa_cons (qe_name (pv 3)) (qa_cons (qe_kon ft T.k_SIDES (kr_SIDES T) (by rfl)) qa_nil))) (qe_one (qe_call ft O_p_is_whole rfl (hr.mono (by decide)) (by rfl) (qa_cons (qe_name (pv 4)) qa_nil)))))))))))
def d_p_is_size : DS :=
    (retD (orV (lift2 (gIs false) (nameD 0) (conD .non)) (orV (callD D_p_is_count [(nameD 0)]) (orV (callD D_p_is_part [(nameD 0)]) (callD D_p_is_tie [(nameD 0)])))))
def D_p_is_size : DF := bodyF 1 d_p_is_size
theorem ok_p_is_size {P : Program} {w : World} {K : PySem.W.Frag} {mg : Str → Option Value} {base : Heap} (T : Txt K mg) : Ok P w K mg base CX0 "is_size" s_p_is_size 4 ["thing"] (sp0 K mg 1 D_p_is_size) := by
  have O_p_is_count := ok_p_is_count (P := P) (w := w) (base := base) T
  have O_p_is_part := ok_p_is_part (P := P) (w := w) (base := base) T
  have O_p_is_tie := ok_p_is_tie (P := P) (w := w) (base := base) T
  exact T.h_p_is_size.okD (N := n_p_is_size) (g := d_p_is_size) sc_p_is_size (fun f cdv A outer s H E F hr ft => (qss_one (qs_ret (qe_or (qe_cmp op_isN ok_is (qe_name (pv 0)) qe_non (nomark _)) (qe_or (qe_call ft O_p_is_count rfl (hr.mono (by decide)) (by rfl) (qa_cons (qe_name (pv 0)) qa_nil)) (qe_or (qe_call ft O_p_is_part rfl (hr.mono (by decide)) (by rfl) (qa_cons (qe_name (pv 0)) qa_nil)) (qe_one (qe_call ft O_p_is_tie rfl (hr.mono (by decide)) (by rfl) (qa_cons (qe_name (pv 0)) qa_nil)))))))))
def d_p_is_bound : DS :=
    (retD (orV (lift2 (gIs false) (nameD 0) (conD .non)) (callD D_p_is_count [(nameD 0)])))
def D_p_is_bound : DF := bodyF 1 d_p_is_bound
theorem ok_p_is_bound {P : Program} {w : World} {K : PySem.W.Frag} {mg : Str → Option Value} {base : Heap} (T : Txt K mg) : Ok P w K mg base CX0 "is_bound" s_p_is_bound 3 ["thing"] (sp0 K mg 1 D_p_is_bound) := by
  have O_p_is_count := ok_p_is_count (P := P) (w := w) (base := base) T
  exact T.h_p_is_bound.okD (N := n_p_is_bound) (g := d_p_is_bound) sc_p_is_bound (fun f cdv A outer s H E F hr ft => (qss_one (qs_ret (qe_or (qe_cmp op_isN ok_is (qe_name (pv 0)) qe_non (nomark _)) (qe_one (qe_call ft O_p_is_count rfl (hr.mono (by decide)) (by rfl) (qa_cons (qe_name (pv 0)) qa_nil)))))))
def d_p_are_rims : DS :=
    (retD (andV (callG (gIsiO bt_objs) [(nameD 0), (conD (.ty "tuple"))]) (andV (lift2 (gEq false) (callG gLen [(nameD 0)]) (conD (.int 4))) (callG gAll [(compD (iterE (nameD 0)) (gNameD 1) yesT (callD D_p_is_count [(nameD 1)]) [1] [])]))))
def D_p_are_rims : DF := bodyF 2 d_p_are_rims
theorem ok_p_are_rims {P : Program} {w : World} {K : PySem.W.Frag} {mg : Str → Option Value} {base : Heap} (T : Txt K mg) : Ok P w K mg base CX0 "are_rims" s_p_are_rims 3 ["thing"] (sp0 K mg 1 D_p_are_rims) := by
  have O_p_is_count := ok_p_is_count (P := P) (w := w) (base := base) T
  exact T.h_p_are_rims.okD (N := n_p_are_rims) (g := d_p_are_rims) sc_p_are_rims (fun f cdv A outer s H E F hr ft => (qss_one (qs_ret (qe_and (qe_callB' (ca_isi ft) (ok_isiO (Fit.blt ft (bt_of T))) (by rfl) T.m_isinstance (by decide +kernel) (qa_cons (qe_name (pv 0)) (qa_cons (qe_ty (by rfl) T.m_tuple (by decide +kernel)) qa_nil))) (qe_and (qe_cmp (op_eqA ft hr.units) ok_eq (qe_callB' (ca_len ft) ok_len (by rfl) T.m_len (by decide +kernel) (qa_cons (qe_name (pv 0)) qa_nil)) qe_int (nomark _)) (qe_one (qe_callB' (ca_all ft rfl) ok_all (by rfl) T.m_all (by decide +kernel) (qa_cons (qe_lc (own := [("rim", 1)]) (zs := []) (by rfl) sc_p_are_rims.nd (qi_seq ft (qe_name (pv 0))) (blkOk_by (own := [("rim", 1)]) (N := n_p_are_rims) (sc := defScope s_p_are_rims) (by decide +kernel)) (fun _ _ _ _ _ _ gn1 => (qg_name (i := 1) sc_p_are_rims.nd rfl (by first | exact Or.inl rfl | exact Or.inr rfl))) (fun _ _ _ _ _ _ gn1 => qts_nil) (fun _ _ _ _ _ _ gn1 => (qe_call (Fit.blk ft gn1) O_p_is_count gn1.z (hr.mono (by decide)) (by rfl) (qa_cons (qe_name (pv 1)) qa_nil)))) qa_nil))))))))
def d_cell_at : DS :=
    (seqD (ifD (boolT (lift2 gLt (nameD 1) (callG gLen [(nameD 0)])))
    (retD (lift2 gIx (nameD 0) (nameD 1)))
    nextD)
    (retD (conD (.int 0))))
def D_cell_at : DF := bodyF 2 d_cell_at
theorem ok_cell_at {P : Program} {w : World} {K : PySem.W.Frag} {mg : Str → Option Value} {base : Heap} (T : Txt K mg) : Ok P w K mg base CX0 "_law_cell_at" s_cell_at 1 ["_law_script", "_law_k"] (sp0 K mg 2 D_cell_at) := by
  exact T.h_cell_at.okD (N := n_cell_at) (g := d_cell_at) sc_cell_at (fun f cdv A outer s H E F hr ft => (qss_cons (qs_if (qt_cmp op_lt ok_lt (qe_name (pv 1)) (qe_callB' (ca_len ft) ok_len (by rfl) T.m_len (by decide +kernel) (qa_cons (qe_name (pv 0)) qa_nil)) (nomark _))
      (qss_one (qs_ret (qe_ix ft (qe_name (pv 0)) (qe_name (pv 1)))))
      qss_nil)
      (qss_one (qs_ret qe_int))))
def d_mixed : DS :=
    (seqD (setD 2 (lift2 gAdd (lift2 gAdd (lift2 gAdd (lift2 gMod (nameD 0) (conD (.int 2147483629))) (lift2 gMulX (lift2 gDiv (nameD 0) (conD (.int 2147483629))) (conD (.int 30013)))) (lift2 gMulX (conD (.int 69691)) (nameD 1))) (conD (.int 1))))
    (seqD (setD 2 (lift2 gMod (lift2 gMulX (nameD 2) (conD (.int 48281))) (conD (.int 2147483629))))
    (seqD (setD 2 (lift2 gMod (lift2 gMulX (nameD 2) (lift2 gAdd (lift2 gAdd (lift2 gDiv (nameD 2) (conD (.int 907))) (conD (.int 16843))) (nameD 1))) (conD (.int 2147483587))))
    (retD (lift2 gMod (lift2 gMulX (nameD 2) (lift2 gAdd (lift2 gDiv (nameD 2) (conD (.int 1201))) (conD (.int 30029)))) (conD (.int 2147483563)))))))
def D_mixed : DF := bodyF 3 d_mixed
theorem ok_mixed {P : Program} {w : World} {K : PySem.W.Frag} {mg : Str → Option Value} {base : Heap} (T : Txt K mg) : Ok P w K mg base CX0 "_law_mixed" s_mixed 1 ["_law_cell", "_law_k"] (sp0 K mg 2 D_mixed) := by
  exact T.h_mixed.okD (N := n_mixed) (g := d_mixed) sc_mixed (fun f cdv A outer s H E F hr ft => (qss_cons (qs_set (i := 2) sc_mixed.nd rfl (by first | exact Or.inl rfl | exact Or.inr rfl) (qe_op (op_addA ft) ok_add (qe_op (op_addA ft) ok_add (qe_op (op_addA ft) ok_add (qe_op op_mod ok_mod (qe_name (pv 0)) qe_int) (qe_op op_mulX ok_mulX (qe_op op_fdivW ok_div (qe_name (pv 0)) qe_int) qe_int)) (qe_op op_mulX ok_mulX qe_int (qe_name (pv 1)))) qe_int))
      (qss_cons (qs_set (i := 2) sc_mixed.nd rfl (by first | exact Or.inl rfl | exact Or.inr rfl) (qe_op op_mod ok_mod (qe_op op_mulX ok_mulX (qe_name (pv 2)) qe_int) qe_int))
      (qss_cons (qs_set (i := 2) sc_mixed.nd rfl (by first | exact Or.inl rfl | exact Or.inr rfl) (qe_op op_mod ok_mod (qe_op op_mulX ok_mulX (qe_name (pv 2)) (qe_op (op_addA ft) ok_add (qe_op (op_addA ft) ok_add (qe_op op_fdivW ok_div (qe_name (pv 2)) qe_int) qe_int) (qe_name (pv 1)))) qe_int))
      (qss_one (qs_ret (qe_op op_mod ok_mod (qe_op op_mulX ok_mulX (qe_name (pv 2)) (qe_op (op_addA ft) ok_add (qe_op op_fdivW ok_div (qe_name (pv 2)) qe_int) qe_int)) qe_int)))))))
def d_source : DS :=
    (retD (lstD [(nameD 0), (nameD 0), (conD (.int 0))]))
def D_source : DF := bodyF 1 d_source
theorem ok_source {P : Program} {w : World} {K : PySem.W.Frag} {mg : Str → Option Value} {base : Heap} (T : Txt K mg) : Ok P w K mg base CX0 "_law_source" s_source 1 ["_law_cell"] (sp0 K mg 1 D_source) := by
  exact T.h_source.okD (N := n_source) (g := d_source) sc_source (fun f cdv A outer s H E F hr ft => (qss_one (qs_ret (qe_lst (qa_cons (qe_name (pv 0)) (qa_cons (qe_name (pv 0)) (qa_cons qe_int qa_nil)))))))
def d_next : DS :=
    (seqD (ifD (boolT (lift2 gGe (ixND 0 (conD (.int 0))) (lift2 gPow (conD (.int 10)) (conD (.int 18)))))
    (seqD (setD 2 (lift2 gMod (ixND 0 (conD (.int 0))) (nameD 1)))
    (seqD (setIxD 0 (lift2 gDiv (ixND 0 (conD (.int 0))) (nameD 1)) (conD (.int 0)))
    (retNameD 2)))
    nextD)
    (seqD (setIxD 0 (lift2 gAdd (ixND 0 (conD (.int 2))) (conD (.int 1))) (conD (.int 2)))
    (retD (lift2 gMod (callD D_mixed [(ixND 0 (conD (.int 1))), (ixND 0 (conD (.int 2)))]) (nameD 1)))))
def D_next : DF := bodyB 3 d_next
theorem ok_next {P : Program} {w : World} {K : PySem.W.Frag} {mg : Str → Option Value} {base : Heap} (T : Txt K mg) : Ok P w K mg base CX0 "_law_next" s_next 2 ["_law_source_here", "_law_many"] (spB K mg 2 D_next) := by
  have O_mixed := ok_mixed (P := P) (w := w) (base := base) T
  exact T.h_next.okB (N := n_next) (g := d_next) sc_next (by decide) (fun f cdv A outer s H E F p hr ft => (qss_cons (qs_if (qt_cmp op_ge ok_ge (qe_ixN ft (pv 0) qe_int) (qe_op op_pow ok_pow qe_int qe_int) (nomark _))
      (qss_cons (qs_set (i := 2) sc_next.nd rfl (by first | exact Or.inl rfl | exact Or.inr rfl) (qe_op op_mod ok_mod (qe_ixN ft (pv 0) qe_int) (qe_name (pv 1))))
      (qss_cons (qs_setIx (pv 0) qe_int (qe_op op_fdivW ok_div (qe_ixN ft (pv 0) qe_int) (qe_name (pv 1))))
      (qss_one (qs_retName (pv 2)))))
      qss_nil)
      (qss_cons (qs_setIx (pv 0) qe_int (qe_op (op_addA ft) ok_add (qe_ixN ft (pv 0) qe_int) qe_int))
      (qss_one (qs_ret (qe_op op_mod ok_mod (qe_call ft O_mixed rfl (hr.mono (by decide)) (by rfl) (qa_cons (qe_ixN ft (pv 0) qe_int) (qa_cons (qe_ixN ft (pv 0) qe_int) qa_nil))) (qe_name (pv 1))))))))
def d_name : DS :=
    (seqD (setD 2 (conD (.str (Str.ofString ""))))
    (seqD (forS (iterG gR1 [(nameD 1)]) (gNameD 3)
    (setD 2 (lift2 gAdd (nameD 2) (lift2 gIx (conD (.str (Str.ofString "abcdefghijklmnopqrstuvwxyz"))) (callBD D_next 0 [(conD (.int 26))])))))
    (retNameD 2)))
def D_name : DF := bodyB 4 d_name
theorem ok_name {P : Program} {w : World} {K : PySem.W.Frag} {mg : Str → Option Value} {base : Heap} (T : Txt K mg) : Ok P w K mg base CX0 "_law_name" s_name 3 ["_law_source_here", "_law_many"] (spB K mg 2 D_name) := by
  have O_next := ok_next (P := P) (w := w) (base := base) T
  exact T.h_name.okB (N := n_name) (g := d_name) sc_name (by decide) (fun f cdv A outer s H E F p hr ft => (qss_cons (qs_set (i := 2) sc_name.nd rfl (by first | exact Or.inl rfl | exact Or.inr rfl) qe_str)
      (qss_cons (qs_for PassesOwn.never (by rfl) (qi_range1 (by rfl) T.m_range (qa_cons (qe_name (pv 1)) qa_nil)) (qg_name (i := 3) sc_name.nd rfl (by first | exact Or.inl rfl | exact Or.inr rfl))
      (qss_one (qs_set (i := 2) sc_name.nd rfl (by first | exact Or.inl rfl | exact Or.inr rfl) (qe_op (op_addA ft) ok_add (qe_name (pv 2)) (qe_ix ft qe_str (qe_callB ft O_next (hr.mono (by decide)) (by rfl) (pv 0) (qa_cons qe_int qa_nil)))))))
      (qss_one (qs_retName (pv 2))))))
def d_number : DS :=
    (retD (callBD D_next 0 [(lift2 gIx (lstD [(conD (.int 3)), (conD (.int 50)), (lift2 gPow (conD (.int 10)) (conD (.int 12)))]) (callBD D_next 0 [(conD (.int 3))]))]))
def D_number : DF := bodyB 1 d_number
theorem ok_number {P : Program} {w : World} {K : PySem.W.Frag} {mg : Str → Option Value} {base : Heap} (T : Txt K mg) : Ok P w K mg base CX0 "_law_number" s_number 3 ["_law_source_here"] (spB K mg 1 D_number) := by
  have O_next := ok_next (P := P) (w := w) (base := base) T
  exact T.h_number.okB (N := n_number) (g := d_number) sc_number (by decide) (fun f cdv A outer s H E F p hr ft => (qss_one (qs_ret (qe_callB ft O_next (hr.mono (by decide)) (by rfl) (pv 0) (qa_cons (qe_ix ft (qe_lst (qa_cons qe_int (qa_cons qe_int (qa_cons (qe_op op_pow ok_pow qe_int qe_int) qa_nil)))) (qe_callB ft O_next (hr.mono (by decide)) (by rfl) (pv 0) (qa_cons qe_int qa_nil))) qa_nil)))))
def d_size : DS :=
    (seqD (setD 1 (callBD D_next 0 [(conD (.int 4))]))
    (seqD (ifD (boolT (lift2 (gEq false) (nameD 1) (conD (.int 1))))
    (retD (callBD D_number 0 []))
    nextD)
    (seqD (ifD (boolT (lift2 (gEq false) (nameD 1) (conD (.int 2))))
    (retD (tupD [(conD (.str (Str.ofString "part"))), (callBD D_number 0 [])]))
    nextD)
    (seqD (ifD (boolT (lift2 (gEq false) (nameD 1) (conD (.int 3))))
    (seqD (setD 2 (callBD D_name 0 [(lift2 gAdd (conD (.int 1)) (callBD D_next 0 [(conD (.int 8))]))]))
    (retD (tupD [(conD (.str (Str.ofString "as"))), (nameD 2), (lift2 gIx (lstD [(conD (.str (Str.ofString "wide"))), (conD (.str (Str.ofString "tall")))]) (callBD D_next 0 [(conD (.int 2))])), (lift2 gSub (callBD D_number 0 []) (conD (.int 50)))])))
    nextD)
    (retD (conD .non))))))
def D_size : DF := bodyB 3 d_size
theorem ok_size {P : Program} {w : World} {K : PySem.W.Frag} {mg : Str → Option Value} {base : Heap} (T : Txt K mg) : Ok P w K mg base CX0 "_law_size" s_size 4 ["_law_source_here"] (spB K mg 1 D_size) := by
  have O_next := ok_next (P := P) (w := w) (base := base) T
  have O_number := ok_number (P := P) (w := w) (base := base) T
  have O_name := ok_name (P := P) (w := w) (base := base) T
  exact T.h_size.okB (N := n_size) (g := d_size) sc_size (by decide) (fun f cdv A outer s H E F p hr ft => (qss_cons (qs_set (i := 1) sc_size.nd rfl (by first | exact Or.inl rfl | exact Or.inr rfl) (qe_callB ft O_next (hr.mono (by decide)) (by rfl) (pv 0) (qa_cons qe_int qa_nil)))
      (qss_cons (qs_if (qt_cmp (op_eqA ft hr.units) ok_eq (qe_name (pv 1)) qe_int (nomark _))
      (qss_one (qs_ret (qe_callB ft O_number (hr.mono (by decide)) (by rfl) (pv 0) qa_nil)))
      qss_nil)
      (qss_cons (qs_if (qt_cmp (op_eqA ft hr.units) ok_eq (qe_name (pv 1)) qe_int (nomark _))
      (qss_one (qs_ret (qe_tup (qa_cons qe_str (qa_cons (qe_callB ft O_number (hr.mono (by decide)) (by rfl) (pv 0) qa_nil) qa_nil)))))
      qss_nil)
      (qss_cons (qs_if (qt_cmp (op_eqA ft hr.units) ok_eq (qe_name (pv 1)) qe_int (nomark _))
      (qss_cons (qs_set (i := 2) sc_size.nd rfl (by first | exact Or.inl rfl | exact Or.inr rfl) (qe_callB ft O_name (hr.mono (by decide)) (by rfl) (pv 0) (qa_cons (qe_op (op_addA ft) ok_add qe_int (qe_callB ft O_next (hr.mono (by decide)) (by rfl) (pv 0) (qa_cons qe_int qa_nil))) qa_nil)))
      (qss_one (qs_ret (qe_tup (qa_cons qe_str (qa_cons (qe_name (pv 2)) (qa_cons (qe_ix ft (qe_lst (qa_cons qe_str (qa_cons qe_str qa_nil))) (qe_callB ft O_next (hr.mono (by decide)) (by rfl) (pv 0) (qa_cons qe_int qa_nil))) (qa_cons (qe_op op_sub ok_sub (qe_callB ft O_number (hr.mono (by decide)) (by rfl) (pv 0) qa_nil) qe_int) qa_nil))))))))
      qss_nil)
      (qss_one (qs_ret qe_non)))))))
def d_values : DS :=
    (seqD (setD 1 (lift2 gAdd (lstD [(callBD D_size 0 []), (callBD D_size 0 [])]) (compD (iterG gR1 [(conD (.int 4))]) (gNameD 2) yesT (callBD D_number 0 []) [2] [])))
    (seqD (setD 1 (lift2 gAdd (nameD 1) (lstD [(callBD D_number 0 []), (callBD D_number 0 [])])))
    (seqD (exprD (mutD gAppend 1 [(callG gTuple [(compD (iterG gR1 [(conD (.int 4))]) (gNameD 2) yesT (callBD D_number 0 []) [2] [])])]))
    (retD (lift2 gAdd (nameD 1) (lstD [(lift2 gIx (lstD [(conD .non), (conD (.str (Str.ofString "start"))), (conD (.str (Str.ofString "end"))), (conD (.str (Str.ofString "middle"))), (conD (.str (Str.ofString "stretch"))), (conD (.str (Str.ofString "base")))]) (callBD D_next 0 [(conD (.int 6))]))]))))))
def D_values : DF := bodyB 3 d_values
theorem ok_values {P : Program} {w : World} {K : PySem.W.Frag} {mg : Str → Option Value} {base : Heap} (T : Txt K mg) : Ok P w K mg base CX0 "_law_values" s_values 5 ["_law_source_here"] (spB K mg 1 D_values) := by
  have O_size := ok_size (P := P) (w := w) (base := base) T
  have O_number := ok_number (P := P) (w := w) (base := base) T
  have O_next := ok_next (P := P) (w := w) (base := base) T
  exact T.h_values.okB (N := n_values) (g := d_values) sc_values (by decide) (fun f cdv A outer s H E F p hr ft => (qss_cons (qs_set (i := 1) sc_values.nd rfl (by first | exact Or.inl rfl | exact Or.inr rfl) (qe_op (op_addA ft) ok_add (qe_lst (qa_cons (qe_callB ft O_size (hr.mono (by decide)) (by rfl) (pv 0) qa_nil) (qa_cons (qe_callB ft O_size (hr.mono (by decide)) (by rfl) (pv 0) qa_nil) qa_nil))) (qe_lc (own := [("_law_k", 2)]) (zs := []) (by rfl) sc_values.nd (qi_range1 (by rfl) T.m_range (qa_cons qe_int qa_nil)) (blkOk_by (own := [("_law_k", 2)]) (N := n_values) (sc := defScope s_values) (by decide +kernel)) (fun _ _ _ _ _ _ gn1 => (qg_name (i := 2) sc_values.nd rfl (by first | exact Or.inl rfl | exact Or.inr rfl))) (fun _ _ _ _ _ _ gn1 => qts_nil) (fun _ _ _ _ _ _ gn1 => (qe_callB (Fit.blk ft gn1) O_number (hr.mono (by decide)) (by rfl) (pv 0) qa_nil)))))
      (qss_cons (qs_set (i := 1) sc_values.nd rfl (by first | exact Or.inl rfl | exact Or.inr rfl) (qe_op (op_addA ft) ok_add (qe_name (pv 1)) (qe_lst (qa_cons (qe_callB ft O_number (hr.mono (by decide)) (by rfl) (pv 0) qa_nil) (qa_cons (qe_callB ft O_number (hr.mono (by decide)) (by rfl) (pv 0) qa_nil) qa_nil)))))
      (qss_cons (qs_expr (qe_mut ft PySem.F.plainAttrs_list PySem.F.slot_list_append PySem.F.type_list_append mt_append ok_append (pv 1) (qa_cons (qe_callT (ca_tuple ft) ok_tuple (by rfl) T.m_tuple (by decide +kernel) (qa_cons (qe_lc (own := [("_law_k", 2)]) (zs := []) (by rfl) sc_values.nd (qi_range1 (by rfl) T.m_range (qa_cons qe_int qa_nil)) (blkOk_by (own := [("_law_k", 2)]) (N := n_values) (sc := defScope s_values) (by decide +kernel)) (fun _ _ _ _ _ _ gn1 => (qg_name (i := 2) sc_values.nd rfl (by first | exact Or.inl rfl | exact Or.inr rfl))) (fun _ _ _ _ _ _ gn1 => qts_nil) (fun _ _ _ _ _ _ gn1 => (qe_callB (Fit.blk ft gn1) O_number (hr.mono (by decide)) (by rfl) (pv 0) qa_nil))) qa_nil)) qa_nil)))
      (qss_one (qs_ret (qe_op (op_addA ft) ok_add (qe_name (pv 1)) (qe_lst (qa_cons (qe_ix ft (qe_lst (qa_cons qe_non (qa_cons qe_str (qa_cons qe_str (qa_cons qe_str (qa_cons qe_str (qa_cons qe_str qa_nil))))))) (qe_callB ft O_next (hr.mono (by decide)) (by rfl) (pv 0) (qa_cons qe_int qa_nil))) qa_nil)))))))))
def d_Style_init : DS :=
    (seqD (exprD (callD D_p_refuse_unless [(andV (callD D_p_is_size [(nameD 1)]) (callD D_p_is_size [(nameD 2)])), (conD (.str (Str.ofString "a told size isn't one")))]))
    (seqD (setD 11 (lstD [(nameD 3), (nameD 4), (nameD 5), (nameD 6)]))
    (seqD (exprD (callD D_p_refuse_unless [(callG gAll [(compD (iterE (nameD 11)) (gNameD 12) yesT (callD D_p_is_bound [(nameD 12)]) [12] [])]), (conD (.str (Str.ofString "a least or a most isn't one")))]))
    (seqD (exprD (callD D_p_refuse_unless [(andV (callD D_p_is_count [(nameD 7)]) (callD D_p_is_count [(nameD 8)])), (conD (.str (Str.ofString "grow or shrink isn't a whole number from 0 on")))]))
    (seqD (exprD (callD D_p_refuse_unless [(callD D_p_are_rims [(nameD 9)]), (conD (.str (Str.ofString "rims are a tuple of four whole numbers from 0 on")))]))
    (seqD (exprD (callD D_p_refuse_unless [(orV (lift2 (gIs false) (nameD 10) (conD .non)) (callD D_p_is_one_of [(nameD 10), (conD (.tup [(.str (Str.ofString "start")), (.str (Str.ofString "end")), (.str (Str.ofString "middle")), (.str (Str.ofString "stretch")), (.str (Str.ofString "base"))]))])), (conD (.str (Str.ofString "this is no stand")))]))
    (seqD (setAtD at_wide "wide" 0 (nameD 1))
    (seqD (setAtD at_high "high" 0 (nameD 2))
    (seqD (setAtD at_least_wide "least_wide" 0 (nameD 3))
    (seqD (setAtD at_least_high "least_high" 0 (nameD 4))
    (seqD (setAtD at_most_wide "most_wide" 0 (nameD 5))
    (seqD (setAtD at_most_high "most_high" 0 (nameD 6))
    (seqD (setAtD at_grow "grow" 0 (nameD 7))
    (seqD (setAtD at_shrink "shrink" 0 (nameD 8))
    (seqD (setAtD at_rims "rims" 0 (nameD 9))
    (setAtD at_stand "stand" 0 (nameD 10)))))))))))))))))
def D_Style_init : DF := bodyB 13 d_Style_init
def dX_Style_init : DS :=
    (seqD (exprD (callD D_p_refuse_unless [(andV (call0D D_p_is_size [(nameD 1)]) (call0D D_p_is_size [(nameD 2)])), (conD (.str (Str.ofString "a told size isn't one")))]))
    (seqD (setD 11 (lstD [(nameD 3), (nameD 4), (nameD 5), (nameD 6)]))
    (seqD (exprD (callD D_p_refuse_unless [(callG gAll [(compD (iterE (nameD 11)) (gNameD 12) yesT (callD D_p_is_bound [(nameD 12)]) [12] [])]), (conD (.str (Str.ofString "a least or a most isn't one")))]))
    (seqD (exprD (callD D_p_refuse_unless [(andV (call0D D_p_is_count [(nameD 7)]) (call0D D_p_is_count [(nameD 8)])), (conD (.str (Str.ofString "grow or shrink isn't a whole number from 0 on")))]))
    (seqD (exprD (callD D_p_refuse_unless [(call0D D_p_are_rims [(nameD 9)]), (conD (.str (Str.ofString "rims are a tuple of four whole numbers from 0 on")))]))
    (seqD (exprD (callD D_p_refuse_unless [(orV (lift2 (gIs false) (nameD 10) (conD .non)) (call0D D_p_is_one_of [(nameD 10), (conD (.tup [(.str (Str.ofString "start")), (.str (Str.ofString "end")), (.str (Str.ofString "middle")), (.str (Str.ofString "stretch")), (.str (Str.ofString "base"))]))])), (conD (.str (Str.ofString "this is no stand")))]))
    (seqD (setAtD at_wide "wide" 0 (nameD 1))
    (seqD (setAtD at_high "high" 0 (nameD 2))
    (seqD (setAtD at_least_wide "least_wide" 0 (nameD 3))
    (seqD (setAtD at_least_high "least_high" 0 (nameD 4))
    (seqD (setAtD at_most_wide "most_wide" 0 (nameD 5))
    (seqD (setAtD at_most_high "most_high" 0 (nameD 6))
    (seqD (setAtD at_grow "grow" 0 (nameD 7))
    (seqD (setAtD at_shrink "shrink" 0 (nameD 8))
    (seqD (setAtD at_rims "rims" 0 (nameD 9))
    (setAtD at_stand "stand" 0 (nameD 10)))))))))))))))))
def DX_Style_init : DF := bodyBX 13 dX_Style_init
theorem ok_Style_init {P : Program} {w : World} {K : PySem.W.Frag} {mg : Str → Option Value} {base : Heap} (T : Txt K mg) : OkC P w K mg base CX0 "Style" "Style.__init__" s_Style_init 5 ["self", "wide", "high", "least_wide", "least_high", "most_wide", "most_high", "grow", "shrink", "rims", "stand"] [("wide", .non), ("high", .non), ("least_wide", .non), ("least_high", .non), ("most_wide", .non), ("most_high", .non), ("grow", (.int 0)), ("shrink", (.int 1)), ("rims", .ref (clsA mg "NO_RIMS")), ("stand", .non)] (spB K mg 11 D_Style_init) := by
  have O_p_refuse_unless := ok_p_refuse_unless (P := P) (w := w) (base := base) T
  have O_p_are_rims := ok_p_are_rims (P := P) (w := w) (base := base) T
  have O_p_is_size := ok_p_is_size (P := P) (w := w) (base := base) T
  have O_p_is_count := ok_p_is_count (P := P) (w := w) (base := base) T
  have O_p_is_one_of := ok_p_is_one_of (P := P) (w := w) (base := base) T
  have O_p_is_bound := ok_p_is_bound (P := P) (w := w) (base := base) T
  exact T.i_Style.okB T.c_Style.g (N := n_Style_init) (g := d_Style_init) sc_Style_init (by decide) (fun f cdv A outer s H E F p hr ft => (qss_cons (qs_expr (qe_call ft O_p_refuse_unless rfl (hr.mono (by decide)) (by rfl) (qa_cons (qe_and (qe_call ft O_p_is_size rfl (hr.mono (by decide)) (by rfl) (qa_cons (qe_name (pv 1)) qa_nil)) (qe_one (qe_call ft O_p_is_size rfl (hr.mono (by decide)) (by rfl) (qa_cons (qe_name (pv 2)) qa_nil)))) (qa_cons qe_str qa_nil))))
      (qss_cons (qs_set (i := 11) sc_Style_init.nd rfl (by first | exact Or.inl rfl | exact Or.inr rfl) (qe_lst (qa_cons (qe_name (pv 3)) (qa_cons (qe_name (pv 4)) (qa_cons (qe_name (pv 5)) (qa_cons (qe_name (pv 6)) qa_nil))))))
      (qss_cons (qs_expr (qe_call ft O_p_refuse_unless rfl (hr.mono (by decide)) (by rfl) (qa_cons (qe_callB' (ca_all ft rfl) ok_all (by rfl) T.m_all (by decide +kernel) (qa_cons (qe_lc (own := [("bound", 12)]) (zs := []) (by rfl) sc_Style_init.nd (qi_seq ft (qe_name (pv 11))) (blkOk_by (own := [("bound", 12)]) (N := n_Style_init) (sc := defScope s_Style_init) (by decide +kernel)) (fun _ _ _ _ _ _ gn1 => (qg_name (i := 12) sc_Style_init.nd rfl (by first | exact Or.inl rfl | exact Or.inr rfl))) (fun _ _ _ _ _ _ gn1 => qts_nil) (fun _ _ _ _ _ _ gn1 => (qe_call (Fit.blk ft gn1) O_p_is_bound gn1.z (hr.mono (by decide)) (by rfl) (qa_cons (qe_name (pv 12)) qa_nil)))) qa_nil)) (qa_cons qe_str qa_nil))))
      (qss_cons (qs_expr (qe_call ft O_p_refuse_unless rfl (hr.mono (by decide)) (by rfl) (qa_cons (qe_and (qe_call ft O_p_is_count rfl (hr.mono (by decide)) (by rfl) (qa_cons (qe_name (pv 7)) qa_nil)) (qe_one (qe_call ft O_p_is_count rfl (hr.mono (by decide)) (by rfl) (qa_cons (qe_name (pv 8)) qa_nil)))) (qa_cons qe_str qa_nil))))
      (qss_cons (qs_expr (qe_call ft O_p_refuse_unless rfl (hr.mono (by decide)) (by rfl) (qa_cons (qe_call ft O_p_are_rims rfl (hr.mono (by decide)) (by rfl) (qa_cons (qe_name (pv 9)) qa_nil)) (qa_cons qe_str qa_nil))))
      (qss_cons (qs_expr (qe_call ft O_p_refuse_unless rfl (hr.mono (by decide)) (by rfl) (qa_cons (qe_or (qe_cmp op_isN ok_is (qe_name (pv 10)) qe_non (nomark _)) (qe_one (qe_call ft O_p_is_one_of rfl (hr.mono (by decide)) (by rfl) (qa_cons (qe_name (pv 10)) (qa_cons (qe_kon ft T.k_STANDS (kr_STANDS T) (by rfl)) qa_nil))))) (qa_cons qe_str qa_nil))))
      (qss_cons (qs_setAt ft (at_wide_of T) (pv 0) (qe_name (pv 1)))
      (qss_cons (qs_setAt ft (at_high_of T) (pv 0) (qe_name (pv 2)))
      (qss_cons (qs_setAt ft (at_least_wide_of T) (pv 0) (qe_name (pv 3)))
      (qss_cons (qs_setAt ft (at_least_high_of T) (pv 0) (qe_name (pv 4)))
      (qss_cons (qs_setAt ft (at_most_wide_of T) (pv 0) (qe_name (pv 5)))
      (qss_cons (qs_setAt ft (at_most_high_of T) (pv 0) (qe_name (pv 6)))
      (qss_cons (qs_setAt ft (at_grow_of T) (pv 0) (qe_name (pv 7)))
      (qss_cons (qs_setAt ft (at_shrink_of T) (pv 0) (qe_name (pv 8)))
      (qss_cons (qs_setAt ft (at_rims_of T) (pv 0) (qe_name (pv 9)))
      (qss_one (qs_setAt ft (at_stand_of T) (pv 0) (qe_name (pv 10))))))))))))))))))))
theorem okX_Style_init {P : Program} {w : World} {K : PySem.W.Frag} {mg : Str → Option Value} {base : Heap} (T : Txt K mg) : OkC P w K mg base (L2N.CX P w) "Style" "Style.__init__" s_Style_init 5 ["self", "wide", "high", "least_wide", "least_high", "most_wide", "most_high", "grow", "shrink", "rims", "stand"] [("wide", .non), ("high", .non), ("least_wide", .non), ("least_high", .non), ("most_wide", .non), ("most_high", .non), ("grow", (.int 0)), ("shrink", (.int 1)), ("rims", .ref (clsA mg "NO_RIMS")), ("stand", .non)] (spBX K mg 11 DX_Style_init) := by
  have OX_p_refuse_unless := okX_p_refuse_unless (P := P) (w := w) (base := base) T
  have O_p_are_rims := ok_p_are_rims (P := P) (w := w) (base := base) T
  have O_p_is_size := ok_p_is_size (P := P) (w := w) (base := base) T
  have O_p_is_count := ok_p_is_count (P := P) (w := w) (base := base) T
  have O_p_is_one_of := ok_p_is_one_of (P := P) (w := w) (base := base) T
  have O_p_is_bound := ok_p_is_bound (P := P) (w := w) (base := base) T
  exact T.i_Style.okBXN T.c_Style.g (N := n_Style_init) (g := dX_Style_init) sc_Style_init (by decide) (fun f cdv A outer s H E F p hr ft => (with_tkN (fun tk => (qss_cons (qs_expr (qe_callXN ft OX_p_refuse_unless (hr.mono (by decide)) (by rfl) tk (qa_cons (qe_and (qe_call0 ft O_p_is_size (hr.mono (by decide)) (by rfl) (qa_cons (qe_name (pv 1)) qa_nil)) (qe_one (qe_call0 ft O_p_is_size (hr.mono (by decide)) (by rfl) (qa_cons (qe_name (pv 2)) qa_nil)))) (qa_cons qe_str qa_nil))))
      (qss_cons (qs_set (i := 11) sc_Style_init.nd rfl (by first | exact Or.inl rfl | exact Or.inr rfl) (qe_lst (qa_cons (qe_name (pv 3)) (qa_cons (qe_name (pv 4)) (qa_cons (qe_name (pv 5)) (qa_cons (qe_name (pv 6)) qa_nil))))))
      (qss_cons (qs_expr (qe_callXN ft OX_p_refuse_unless (hr.mono (by decide)) (by rfl) tk (qa_cons (qe_callB' (ca_all ft rfl) ok_all (by rfl) T.m_all (by decide +kernel) (qa_cons (qe_lc (own := [("bound", 12)]) (zs := []) (by rfl) sc_Style_init.nd (qi_seq ft (qe_name (pv 11))) (blkOk_by (own := [("bound", 12)]) (N := n_Style_init) (sc := defScope s_Style_init) (by decide +kernel)) (fun _ _ _ _ _ _ gn1 => (qg_name (i := 12) sc_Style_init.nd rfl (by first | exact Or.inl rfl | exact Or.inr rfl))) (fun _ _ _ _ _ _ gn1 => qts_nil) (fun _ _ _ _ _ _ gn1 => (qe_call (Fit.blk ft gn1) O_p_is_bound gn1.z (hr.mono (by decide)) (by rfl) (qa_cons (qe_name (pv 12)) qa_nil)))) qa_nil)) (qa_cons qe_str qa_nil))))
      (qss_cons (qs_expr (qe_callXN ft OX_p_refuse_unless (hr.mono (by decide)) (by rfl) tk (qa_cons (qe_and (qe_call0 ft O_p_is_count (hr.mono (by decide)) (by rfl) (qa_cons (qe_name (pv 7)) qa_nil)) (qe_one (qe_call0 ft O_p_is_count (hr.mono (by decide)) (by rfl) (qa_cons (qe_name (pv 8)) qa_nil)))) (qa_cons qe_str qa_nil))))
      (qss_cons (qs_expr (qe_callXN ft OX_p_refuse_unless (hr.mono (by decide)) (by rfl) tk (qa_cons (qe_call0 ft O_p_are_rims (hr.mono (by decide)) (by rfl) (qa_cons (qe_name (pv 9)) qa_nil)) (qa_cons qe_str qa_nil))))
      (qss_cons (qs_expr (qe_callXN ft OX_p_refuse_unless (hr.mono (by decide)) (by rfl) tk (qa_cons (qe_or (qe_cmp op_isN ok_is (qe_name (pv 10)) qe_non (nomark _)) (qe_one (qe_call0 ft O_p_is_one_of (hr.mono (by decide)) (by rfl) (qa_cons (qe_name (pv 10)) (qa_cons (qe_kon ft T.k_STANDS (kr_STANDS T) (by rfl)) qa_nil))))) (qa_cons qe_str qa_nil))))
      (qss_cons (qs_setAt ft (at_wide_of T) (pv 0) (qe_name (pv 1)))
      (qss_cons (qs_setAt ft (at_high_of T) (pv 0) (qe_name (pv 2)))
      (qss_cons (qs_setAt ft (at_least_wide_of T) (pv 0) (qe_name (pv 3)))
      (qss_cons (qs_setAt ft (at_least_high_of T) (pv 0) (qe_name (pv 4)))
      (qss_cons (qs_setAt ft (at_most_wide_of T) (pv 0) (qe_name (pv 5)))
      (qss_cons (qs_setAt ft (at_most_high_of T) (pv 0) (qe_name (pv 6)))
      (qss_cons (qs_setAt ft (at_grow_of T) (pv 0) (qe_name (pv 7)))
      (qss_cons (qs_setAt ft (at_shrink_of T) (pv 0) (qe_name (pv 8)))
      (qss_cons (qs_setAt ft (at_rims_of T) (pv 0) (qe_name (pv 9)))
      (qss_one (qs_setAt ft (at_stand_of T) (pv 0) (qe_name (pv 10)))))))))))))))))))) (L2N.takes_of rfl rfl rfl rfl)))
def d_no_count : DS :=
    (seqD (setD 1 (lstD [(conD (.bl true)), (conD (.bl false)), (conD (.str (Str.ofString "3"))), (conD (.str (Str.ofString ""))), (tupD [(conD (.int 3))]), (lstD [(conD (.int 3))]), (lstD []), noDictD, (tupD []), (lift1 gNeg (conD (.int 1))), (lift2 gSub (lift2 gSub (conD (.int 0)) (conD (.int 1))) (callBD D_number 0 [])), (fun env => newD D_Style_init "Style" df_Style env)]))
    (retD (lift2 gIx (nameD 1) (callBD D_next 0 [(callG gLen [(nameD 1)])]))))
def D_no_count : DF := bodyB 2 d_no_count
theorem sh_Style_ : ShapeF s_Style_init ["self"] ["wide", "high", "least_wide", "least_high", "most_wide", "most_high", "grow", "shrink", "rims", "stand"] [] [none, none, none, none, none, none, none, none, none, none] := ⟨rfl, rfl, rfl, rfl, rfl, by decide +kernel, by decide +kernel, by decide +kernel, by decide +kernel⟩
theorem ok_no_count {P : Program} {w : World} {K : PySem.W.Frag} {mg : Str → Option Value} {base : Heap} (T : Txt K mg) : Ok P w K mg base CX0 "_law_no_count" s_no_count 7 ["_law_source_here"] (spB K mg 1 D_no_count) := by
  have O_Style_init := ok_Style_init (P := P) (w := w) (base := base) T
  have O_next := ok_next (P := P) (w := w) (base := base) T
  have O_number := ok_number (P := P) (w := w) (base := base) T
  exact T.h_no_count.okB (N := n_no_count) (g := d_no_count) sc_no_count (by decide) (fun f cdv A outer s H E F p hr ft => (qss_cons (qs_set (i := 1) sc_no_count.nd rfl (by first | exact Or.inl rfl | exact Or.inr rfl) (qe_lst (qa_cons qe_bl (qa_cons qe_bl (qa_cons qe_str (qa_cons qe_str (qa_cons (qe_tup (qa_cons qe_int qa_nil)) (qa_cons (qe_lst (qa_cons qe_int qa_nil)) (qa_cons (qe_lst qa_nil) (qa_cons qe_noDict (qa_cons (qe_tup qa_nil) (qa_cons (qe_un un_neg ok_neg qe_int) (qa_cons (qe_op op_sub ok_sub (qe_op op_sub ok_sub qe_int qe_int) (qe_callB ft O_number (hr.mono (by decide)) (by rfl) (pv 0) qa_nil)) (qa_cons (qe_make0 (dv := dv_Style mg) ft O_Style_init sh_Style_ (hr.mono (by decide)) (by rfl) rfl (dm_Style K mg) (dr_Style T)) qa_nil))))))))))))))
      (qss_one (qs_ret (qe_ix ft (qe_name (pv 1)) (qe_callB ft O_next (hr.mono (by decide)) (by rfl) (pv 0) (qa_cons (qe_callB' (ca_len ft) ok_len (by rfl) T.m_len (by decide +kernel) (qa_cons (qe_name (pv 1)) qa_nil)) qa_nil)))))))
def d_no_name : DS :=
    (seqD (setD 1 (conD (.str (Str.ofString "ABCDEFGHIJKLMNOPQRSTUVWXYZ0123456789 -_.,:+=\n"))))
    (seqD (setD 2 (callBD D_next 0 [(conD (.int 8))]))
    (seqD (setD 3 (callBD D_next 0 [(lift2 gAdd (nameD 2) (conD (.int 1)))]))
    (seqD (setD 4 (callBD D_name 0 [(nameD 2)]))
    (seqD (setD 5 (lift2 gAdd (lift2 gAdd (sliceD (nameD 4) partN (partD (nameD 3))) (lift2 gIx (nameD 1) (callBD D_next 0 [(callG gLen [(nameD 1)])]))) (sliceD (nameD 4) (partD (nameD 3)) partN)))
    (seqD (setD 6 (lstD [(nameD 5), (conD (.str (Str.ofString ""))), (callBD D_name 0 [(lift2 gAdd (conD (.int 9)) (callBD D_next 0 [(conD (.int 4))]))]), (conD .non), (conD (.int 5)), (tupD [(conD (.str (Str.ofString "a")))]), (lstD [(conD (.str (Str.ofString "a")))])]))
    (retD (lift2 gIx (nameD 6) (lift2 gIx (lstD [(conD (.int 0)), (conD (.int 0)), (conD (.int 0)), (conD (.int 1)), (conD (.int 2)), (conD (.int 2)), (conD (.int 3)), (conD (.int 4)), (conD (.int 5)), (conD (.int 6))]) (callBD D_next 0 [(conD (.int 10))]))))))))))
def D_no_name : DF := bodyB 7 d_no_name
theorem ok_no_name {P : Program} {w : World} {K : PySem.W.Frag} {mg : Str → Option Value} {base : Heap} (T : Txt K mg) : Ok P w K mg base CX0 "_law_no_name" s_no_name 4 ["_law_source_here"] (spB K mg 1 D_no_name) := by
  have O_next := ok_next (P := P) (w := w) (base := base) T
  have O_name := ok_name (P := P) (w := w) (base := base) T
  exact T.h_no_name.okB (N := n_no_name) (g := d_no_name) sc_no_name (by decide) (fun f cdv A outer s H E F p hr ft => (qss_cons (qs_set (i := 1) sc_no_name.nd rfl (by first | exact Or.inl rfl | exact Or.inr rfl) qe_str)
      (qss_cons (qs_set (i := 2) sc_no_name.nd rfl (by first | exact Or.inl rfl | exact Or.inr rfl) (qe_callB ft O_next (hr.mono (by decide)) (by rfl) (pv 0) (qa_cons qe_int qa_nil)))
      (qss_cons (qs_set (i := 3) sc_no_name.nd rfl (by first | exact Or.inl rfl | exact Or.inr rfl) (qe_callB ft O_next (hr.mono (by decide)) (by rfl) (pv 0) (qa_cons (qe_op (op_addA ft) ok_add (qe_name (pv 2)) qe_int) qa_nil)))
      (qss_cons (qs_set (i := 4) sc_no_name.nd rfl (by first | exact Or.inl rfl | exact Or.inr rfl) (qe_callB ft O_name (hr.mono (by decide)) (by rfl) (pv 0) (qa_cons (qe_name (pv 2)) qa_nil)))
      (qss_cons (qs_set (i := 5) sc_no_name.nd rfl (by first | exact Or.inl rfl | exact Or.inr rfl) (qe_op (op_addA ft) ok_add (qe_op (op_addA ft) ok_add (qe_slice ft (qe_name (pv 4)) qo_none (qo_some (qe_name (pv 3)))) (qe_ix ft (qe_name (pv 1)) (qe_callB ft O_next (hr.mono (by decide)) (by rfl) (pv 0) (qa_cons (qe_callB' (ca_len ft) ok_len (by rfl) T.m_len (by decide +kernel) (qa_cons (qe_name (pv 1)) qa_nil)) qa_nil)))) (qe_slice ft (qe_name (pv 4)) (qo_some (qe_name (pv 3))) qo_none)))
      (qss_cons (qs_set (i := 6) sc_no_name.nd rfl (by first | exact Or.inl rfl | exact Or.inr rfl) (qe_lst (qa_cons (qe_name (pv 5)) (qa_cons qe_str (qa_cons (qe_callB ft O_name (hr.mono (by decide)) (by rfl) (pv 0) (qa_cons (qe_op (op_addA ft) ok_add qe_int (qe_callB ft O_next (hr.mono (by decide)) (by rfl) (pv 0) (qa_cons qe_int qa_nil))) qa_nil)) (qa_cons qe_non (qa_cons qe_int (qa_cons (qe_tup (qa_cons qe_str qa_nil)) (qa_cons (qe_lst (qa_cons qe_str qa_nil)) qa_nil)))))))))
      (qss_one (qs_ret (qe_ix ft (qe_name (pv 6)) (qe_ix ft (qe_lst (qa_cons qe_int (qa_cons qe_int (qa_cons qe_int (qa_cons qe_int (qa_cons qe_int (qa_cons qe_int (qa_cons qe_int (qa_cons qe_int (qa_cons qe_int (qa_cons qe_int qa_nil))))))))))) (qe_callB ft O_next (hr.mono (by decide)) (by rfl) (pv 0) (qa_cons qe_int qa_nil)))))))))))))
def d_no_size : DS :=
    (seqD (setD 1 (callBD D_next 0 [(conD (.int 6))]))
    (seqD (setD 2 (callBD D_number 0 []))
    (seqD (setD 3 (callBD D_name 0 [(lift2 gAdd (conD (.int 1)) (callBD D_next 0 [(conD (.int 8))]))]))
    (seqD (ifD (boolT (lift2 (gEq false) (nameD 1) (conD (.int 0))))
    (retD (callBD D_no_count 0 []))
    nextD)
    (seqD (ifD (boolT (lift2 (gEq false) (nameD 1) (conD (.int 1))))
    (retD (tupD [(conD (.str (Str.ofString "part"))), (callBD D_no_count 0 [])]))
    nextD)
    (seqD (ifD (boolT (lift2 (gEq false) (nameD 1) (conD (.int 2))))
    (retD (tupD [(conD (.str (Str.ofString "as"))), (callBD D_no_name 0 []), (conD (.str (Str.ofString "wide"))), (nameD 2)]))
    nextD)
    (seqD (ifD (boolT (lift2 (gEq false) (nameD 1) (conD (.int 3))))
    (retD (tupD [(conD (.str (Str.ofString "as"))), (nameD 3), (conD (.str (Str.ofString "tall"))), (lift2 gIx (lstD [(conD .non), (conD (.bl true)), (conD (.bl false)), (conD (.str (Str.ofString "0"))), (tupD [(nameD 2)]), (lstD [(nameD 2)])]) (callBD D_next 0 [(conD (.int 6))]))]))
    nextD)
    (seqD (ifD (boolT (lift2 (gEq false) (nameD 1) (conD (.int 4))))
    (seqD (setD 4 (lift2 gIx (lstD [(conD (.str (Str.ofString "high"))), (conD (.str (Str.ofString "least"))), (conD (.str (Str.ofString ""))), (conD (.str (Str.ofString "Wide"))), (conD (.str (Str.ofString "wide "))), (conD (.str (Str.ofString "walltide"))), (conD .non), (conD (.int 0)), (conD (.bl true)), (tupD [(conD (.str (Str.ofString "wide")))])]) (callBD D_next 0 [(conD (.int 10))])))
    (retD (tupD [(conD (.str (Str.ofString "as"))), (nameD 3), (nameD 4), (nameD 2)])))
    nextD)
    (seqD (setD 5 (lstD [(tupD [(conD (.str (Str.ofString "part")))]), (tupD [(conD (.str (Str.ofString "part"))), (nameD 2), (nameD 2)]), (tupD [(conD (.str (Str.ofString "share"))), (nameD 2)]), (tupD [(conD (.str (Str.ofString "as"))), (nameD 3), (conD (.str (Str.ofString "wide")))]), (tupD [(conD (.str (Str.ofString "as"))), (nameD 3)])]))
    (seqD (setD 5 (lift2 gAdd (nameD 5) (lstD [(tupD [(conD (.str (Str.ofString "as"))), (nameD 3), (conD (.str (Str.ofString "wide"))), (nameD 2), (nameD 2)]), (tupD [(conD (.str (Str.ofString "part"))), (nameD 3), (conD (.str (Str.ofString "wide"))), (nameD 2)]), (lstD [(conD (.str (Str.ofString "part"))), (nameD 2)])])))
    (seqD (setD 5 (lift2 gAdd (nameD 5) (lstD [(lstD [(conD (.str (Str.ofString "as"))), (nameD 3), (conD (.str (Str.ofString "wide"))), (nameD 2)]), (tupD [(conD (.str (Str.ofString "as"))), (nameD 2)]), (tupD [(conD (.str (Str.ofString "Part"))), (nameD 2)]), (tupD [(nameD 2), (conD (.str (Str.ofString "part")))]), (conD (.str (Str.ofString "part")))])))
    (seqD (setD 5 (lift2 gAdd (nameD 5) (lstD [(tupD [(conD (.str (Str.ofString "as"))), (conD (.str (Str.ofString "wide"))), (lift2 gAdd (nameD 3) (conD (.str (Str.ofString "a")))), (nameD 2)]), (tupD [(conD (.str (Str.ofString "tie"))), (nameD 3), (conD (.str (Str.ofString "wide"))), (nameD 2)]), (tupD [(conD .non), (nameD 2)]), (nameD 3)])))
    (retD (lift2 gIx (nameD 5) (callBD D_next 0 [(callG gLen [(nameD 5)])])))))))))))))))
def D_no_size : DF := bodyB 6 d_no_size
theorem ok_no_size {P : Program} {w : World} {K : PySem.W.Frag} {mg : Str → Option Value} {base : Heap} (T : Txt K mg) : Ok P w K mg base CX0 "_law_no_size" s_no_size 8 ["_law_source_here"] (spB K mg 1 D_no_size) := by
  have O_next := ok_next (P := P) (w := w) (base := base) T
  have O_number := ok_number (P := P) (w := w) (base := base) T
  have O_name := ok_name (P := P) (w := w) (base := base) T
  have O_no_count := ok_no_count (P := P) (w := w) (base := base) T
  have O_no_name := ok_no_name (P := P) (w := w) (base := base) T
  exact T.h_no_size.okB (N := n_no_size) (g := d_no_size) sc_no_size (by decide) (fun f cdv A outer s H E F p hr ft => (qss_cons (qs_set (i := 1) sc_no_size.nd rfl (by first | exact Or.inl rfl | exact Or.inr rfl) (qe_callB ft O_next (hr.mono (by decide)) (by rfl) (pv 0) (qa_cons qe_int qa_nil)))
      (qss_cons (qs_set (i := 2) sc_no_size.nd rfl (by first | exact Or.inl rfl | exact Or.inr rfl) (qe_callB ft O_number (hr.mono (by decide)) (by rfl) (pv 0) qa_nil))
      (qss_cons (qs_set (i := 3) sc_no_size.nd rfl (by first | exact Or.inl rfl | exact Or.inr rfl) (qe_callB ft O_name (hr.mono (by decide)) (by rfl) (pv 0) (qa_cons (qe_op (op_addA ft) ok_add qe_int (qe_callB ft O_next (hr.mono (by decide)) (by rfl) (pv 0) (qa_cons qe_int qa_nil))) qa_nil)))
      (qss_cons (qs_if (qt_cmp (op_eqA ft hr.units) ok_eq (qe_name (pv 1)) qe_int (nomark _))
      (qss_one (qs_ret (qe_callB ft O_no_count (hr.mono (by decide)) (by rfl) (pv 0) qa_nil)))
      qss_nil)
      (qss_cons (qs_if (qt_cmp (op_eqA ft hr.units) ok_eq (qe_name (pv 1)) qe_int (nomark _))
      (qss_one (qs_ret (qe_tup (qa_cons qe_str (qa_cons (qe_callB ft O_no_count (hr.mono (by decide)) (by rfl) (pv 0) qa_nil) qa_nil)))))
      qss_nil)
      (qss_cons (qs_if (qt_cmp (op_eqA ft hr.units) ok_eq (qe_name (pv 1)) qe_int (nomark _))
      (qss_one (qs_ret (qe_tup (qa_cons qe_str (qa_cons (qe_callB ft O_no_name (hr.mono (by decide)) (by rfl) (pv 0) qa_nil) (qa_cons qe_str (qa_cons (qe_name (pv 2)) qa_nil)))))))
      qss_nil)
      (qss_cons (qs_if (qt_cmp (op_eqA ft hr.units) ok_eq (qe_name (pv 1)) qe_int (nomark _))
      (qss_one (qs_ret (qe_tup (qa_cons qe_str (qa_cons (qe_name (pv 3)) (qa_cons qe_str (qa_cons (qe_ix ft (qe_lst (qa_cons qe_non (qa_cons qe_bl (qa_cons qe_bl (qa_cons qe_str (qa_cons (qe_tup (qa_cons (qe_name (pv 2)) qa_nil)) (qa_cons (qe_lst (qa_cons (qe_name (pv 2)) qa_nil)) qa_nil))))))) (qe_callB ft O_next (hr.mono (by decide)) (by rfl) (pv 0) (qa_cons qe_int qa_nil))) qa_nil)))))))
      qss_nil)
      (qss_cons (qs_if (qt_cmp (op_eqA ft hr.units) ok_eq (qe_name (pv 1)) qe_int (nomark _))
      (qss_cons (qs_set (i := 4) sc_no_size.nd rfl (by first | exact Or.inl rfl | exact Or.inr rfl) (qe_ix ft (qe_lst (qa_cons qe_str (qa_cons qe_str (qa_cons qe_str (qa_cons qe_str (qa_cons qe_str (qa_cons qe_str (qa_cons qe_non (qa_cons qe_int (qa_cons qe_bl (qa_cons (qe_tup (qa_cons qe_str qa_nil)) qa_nil))))))))))) (qe_callB ft O_next (hr.mono (by decide)) (by rfl) (pv 0) (qa_cons qe_int qa_nil))))
      (qss_one (qs_ret (qe_tup (qa_cons qe_str (qa_cons (qe_name (pv 3)) (qa_cons (qe_name (pv 4)) (qa_cons (qe_name (pv 2)) qa_nil))))))))
      qss_nil)
      (qss_cons (qs_set (i := 5) sc_no_size.nd rfl (by first | exact Or.inl rfl | exact Or.inr rfl) (qe_lst (qa_cons (qe_tup (qa_cons qe_str qa_nil)) (qa_cons (qe_tup (qa_cons qe_str (qa_cons (qe_name (pv 2)) (qa_cons (qe_name (pv 2)) qa_nil)))) (qa_cons (qe_tup (qa_cons qe_str (qa_cons (qe_name (pv 2)) qa_nil))) (qa_cons (qe_tup (qa_cons qe_str (qa_cons (qe_name (pv 3)) (qa_cons qe_str qa_nil)))) (qa_cons (qe_tup (qa_cons qe_str (qa_cons (qe_name (pv 3)) qa_nil))) qa_nil)))))))
      (qss_cons (qs_set (i := 5) sc_no_size.nd rfl (by first | exact Or.inl rfl | exact Or.inr rfl) (qe_op (op_addA ft) ok_add (qe_name (pv 5)) (qe_lst (qa_cons (qe_tup (qa_cons qe_str (qa_cons (qe_name (pv 3)) (qa_cons qe_str (qa_cons (qe_name (pv 2)) (qa_cons (qe_name (pv 2)) qa_nil)))))) (qa_cons (qe_tup (qa_cons qe_str (qa_cons (qe_name (pv 3)) (qa_cons qe_str (qa_cons (qe_name (pv 2)) qa_nil))))) (qa_cons (qe_lst (qa_cons qe_str (qa_cons (qe_name (pv 2)) qa_nil))) qa_nil))))))
      (qss_cons (qs_set (i := 5) sc_no_size.nd rfl (by first | exact Or.inl rfl | exact Or.inr rfl) (qe_op (op_addA ft) ok_add (qe_name (pv 5)) (qe_lst (qa_cons (qe_lst (qa_cons qe_str (qa_cons (qe_name (pv 3)) (qa_cons qe_str (qa_cons (qe_name (pv 2)) qa_nil))))) (qa_cons (qe_tup (qa_cons qe_str (qa_cons (qe_name (pv 2)) qa_nil))) (qa_cons (qe_tup (qa_cons qe_str (qa_cons (qe_name (pv 2)) qa_nil))) (qa_cons (qe_tup (qa_cons (qe_name (pv 2)) (qa_cons qe_str qa_nil))) (qa_cons qe_str qa_nil))))))))
      (qss_cons (qs_set (i := 5) sc_no_size.nd rfl (by first | exact Or.inl rfl | exact Or.inr rfl) (qe_op (op_addA ft) ok_add (qe_name (pv 5)) (qe_lst (qa_cons (qe_tup (qa_cons qe_str (qa_cons qe_str (qa_cons (qe_op (op_addA ft) ok_add (qe_name (pv 3)) qe_str) (qa_cons (qe_name (pv 2)) qa_nil))))) (qa_cons (qe_tup (qa_cons qe_str (qa_cons (qe_name (pv 3)) (qa_cons qe_str (qa_cons (qe_name (pv 2)) qa_nil))))) (qa_cons (qe_tup (qa_cons qe_non (qa_cons (qe_name (pv 2)) qa_nil))) (qa_cons (qe_name (pv 3)) qa_nil)))))))
      (qss_one (qs_ret (qe_ix ft (qe_name (pv 5)) (qe_callB ft O_next (hr.mono (by decide)) (by rfl) (pv 0) (qa_cons (qe_callB' (ca_len ft) ok_len (by rfl) T.m_len (by decide +kernel) (qa_cons (qe_name (pv 5)) qa_nil)) qa_nil))))))))))))))))))
def d_no_rims : DS :=
    (seqD (setD 1 (compD (iterG gR1 [(conD (.int 4))]) (gNameD 2) yesT (callBD D_number 0 []) [2] []))
    (seqD (setD 3 (callBD D_next 0 [(conD (.int 4))]))
    (seqD (ifD (boolT (lift2 (gEq false) (nameD 3) (conD (.int 0))))
    (seqD (setD 4 (lift2 gAdd (sliceD (nameD 1) partN (partD (conD (.int 3)))) (lstD [(callBD D_no_count 0 [])])))
    (seqD (setD 5 (callBD D_next 0 [(conD (.int 4))]))
    (retD (callG gTuple [(lift2 gAdd (sliceD (nameD 4) (partD (nameD 5)) partN) (sliceD (nameD 4) partN (partD (nameD 5))))]))))
    nextD)
    (seqD (ifD (boolT (lift2 (gEq false) (nameD 3) (conD (.int 1))))
    (retD (lift2 gIx (lstD [(nameD 1), (conD .non), (conD (.int 0)), (conD (.str (Str.ofString "0000"))), noDictD, (tupD []), (fun env => newD D_Style_init "Style" df_Style env), (conD (.bl true))]) (callBD D_next 0 [(conD (.int 8))])))
    nextD)
    (seqD (ifD (boolT (lift2 (gEq false) (nameD 3) (conD (.int 2))))
    (retD (callG gTuple [(sliceD (nameD 1) partN (partD (callBD D_next 0 [(conD (.int 4))])))]))
    nextD)
    (retD (callG gTuple [(lift2 gAdd (nameD 1) (lift2 gMulX (lstD [(conD (.int 0))]) (lift2 gAdd (conD (.int 1)) (callBD D_next 0 [(conD (.int 2))]))))])))))))
def D_no_rims : DF := bodyB 6 d_no_rims
theorem ok_no_rims {P : Program} {w : World} {K : PySem.W.Frag} {mg : Str → Option Value} {base : Heap} (T : Txt K mg) : Ok P w K mg base CX0 "_law_no_rims" s_no_rims 8 ["_law_source_here"] (spB K mg 1 D_no_rims) := by
  have O_next := ok_next (P := P) (w := w) (base := base) T
  have O_number := ok_number (P := P) (w := w) (base := base) T
  have O_no_count := ok_no_count (P := P) (w := w) (base := base) T
  have O_Style_init := ok_Style_init (P := P) (w := w) (base := base) T
  exact T.h_no_rims.okB (N := n_no_rims) (g := d_no_rims) sc_no_rims (by decide) (fun f cdv A outer s H E F p hr ft => (qss_cons (qs_setLc (i := 1) (own := [("_law_k", 2)]) (zs := []) (by rfl) sc_no_rims.nd rfl rfl (sw_true rfl rfl rfl (by decide +kernel)) (qi_range1 (by rfl) T.m_range (qa_cons qe_int qa_nil)) (blkOk_by (own := [("_law_k", 2)]) (N := n_no_rims) (sc := defScope s_no_rims) (by decide +kernel)) (fun _ _ _ _ _ _ gn1 => (qg_name (i := 2) sc_no_rims.nd rfl (by first | exact Or.inl rfl | exact Or.inr rfl))) (fun _ _ _ _ _ _ gn1 => qts_nil) (fun _ _ _ _ _ _ gn1 => (qe_callB (Fit.blk ft gn1) O_number (hr.mono (by decide)) (by rfl) (pv 0) qa_nil)))
      (qss_cons (qs_set (i := 3) sc_no_rims.nd rfl (by first | exact Or.inl rfl | exact Or.inr rfl) (qe_callB ft O_next (hr.mono (by decide)) (by rfl) (pv 0) (qa_cons qe_int qa_nil)))
      (qss_cons (qs_if (qt_cmp (op_eqA ft hr.units) ok_eq (qe_name (pv 3)) qe_int (nomark _))
      (qss_cons (qs_set (i := 4) sc_no_rims.nd rfl (by first | exact Or.inl rfl | exact Or.inr rfl) (qe_op (op_addA ft) ok_add (qe_slice ft (qe_name (pv 1)) qo_none (qo_some qe_int)) (qe_lst (qa_cons (qe_callB ft O_no_count (hr.mono (by decide)) (by rfl) (pv 0) qa_nil) qa_nil))))
      (qss_cons (qs_set (i := 5) sc_no_rims.nd rfl (by first | exact Or.inl rfl | exact Or.inr rfl) (qe_callB ft O_next (hr.mono (by decide)) (by rfl) (pv 0) (qa_cons qe_int qa_nil)))
      (qss_one (qs_ret (qe_callT (ca_tuple ft) ok_tuple (by rfl) T.m_tuple (by decide +kernel) (qa_cons (qe_op (op_addA ft) ok_add (qe_slice ft (qe_name (pv 4)) (qo_some (qe_name (pv 5))) qo_none) (qe_slice ft (qe_name (pv 4)) qo_none (qo_some (qe_name (pv 5))))) qa_nil))))))
      qss_nil)
      (qss_cons (qs_if (qt_cmp (op_eqA ft hr.units) ok_eq (qe_name (pv 3)) qe_int (nomark _))
      (qss_one (qs_ret (qe_ix ft (qe_lst (qa_cons (qe_name (pv 1)) (qa_cons qe_non (qa_cons qe_int (qa_cons qe_str (qa_cons qe_noDict (qa_cons (qe_tup qa_nil) (qa_cons (qe_make0 (dv := dv_Style mg) ft O_Style_init sh_Style_ (hr.mono (by decide)) (by rfl) rfl (dm_Style K mg) (dr_Style T)) (qa_cons qe_bl qa_nil))))))))) (qe_callB ft O_next (hr.mono (by decide)) (by rfl) (pv 0) (qa_cons qe_int qa_nil)))))
      qss_nil)
      (qss_cons (qs_if (qt_cmp (op_eqA ft hr.units) ok_eq (qe_name (pv 3)) qe_int (nomark _))
      (qss_one (qs_ret (qe_callT (ca_tuple ft) ok_tuple (by rfl) T.m_tuple (by decide +kernel) (qa_cons (qe_slice ft (qe_name (pv 1)) qo_none (qo_some (qe_callB ft O_next (hr.mono (by decide)) (by rfl) (pv 0) (qa_cons qe_int qa_nil)))) qa_nil))))
      qss_nil)
      (qss_one (qs_ret (qe_callT (ca_tuple ft) ok_tuple (by rfl) T.m_tuple (by decide +kernel) (qa_cons (qe_op (op_addA ft) ok_add (qe_name (pv 1)) (qe_op op_mulX ok_mulX (qe_lst (qa_cons qe_int qa_nil)) (qe_op (op_addA ft) ok_add qe_int (qe_callB ft O_next (hr.mono (by decide)) (by rfl) (pv 0) (qa_cons qe_int qa_nil))))) qa_nil))))))))))
def d_no_stand : DS :=
    (seqD (setD 1 (lift2 gIx (lstD [(conD (.str (Str.ofString "start"))), (conD (.str (Str.ofString "end"))), (conD (.str (Str.ofString "middle"))), (conD (.str (Str.ofString "stretch"))), (conD (.str (Str.ofString "base")))]) (callBD D_next 0 [(conD (.int 5))])))
    (seqD (setD 2 (lstD [(conD (.str (Str.ofString ""))), (lift2 gAdd (nameD 1) (conD (.str (Str.ofString " ")))), (lift2 gAdd (conD (.str (Str.ofString " "))) (nameD 1)), (lift1 gUpper (nameD 1)), (sliceD (nameD 1) partN (partD (lift1 gNeg (conD (.int 1))))), (lift2 gAdd (nameD 1) (conD (.str (Str.ofString "s")))), (conD (.str (Str.ofString "between"))), (conD (.str (Str.ofString "center"))), (tupD [(nameD 1)]), (lstD [(nameD 1)])]))
    (seqD (setD 2 (lift2 gAdd (nameD 2) (lstD [(conD (.int 0)), (conD (.int 1)), (conD (.bl true)), (conD (.bl false)), noDictD, (tupD [])])))
    (retD (lift2 gIx (nameD 2) (callBD D_next 0 [(callG gLen [(nameD 2)])]))))))
def D_no_stand : DF := bodyB 3 d_no_stand
theorem ok_no_stand {P : Program} {w : World} {K : PySem.W.Frag} {mg : Str → Option Value} {base : Heap} (T : Txt K mg) : Ok P w K mg base CX0 "_law_no_stand" s_no_stand 3 ["_law_source_here"] (spB K mg 1 D_no_stand) := by
  have O_next := ok_next (P := P) (w := w) (base := base) T
  exact T.h_no_stand.okB (N := n_no_stand) (g := d_no_stand) sc_no_stand (by decide) (fun f cdv A outer s H E F p hr ft => (qss_cons (qs_set (i := 1) sc_no_stand.nd rfl (by first | exact Or.inl rfl | exact Or.inr rfl) (qe_ix ft (qe_lst (qa_cons qe_str (qa_cons qe_str (qa_cons qe_str (qa_cons qe_str (qa_cons qe_str qa_nil)))))) (qe_callB ft O_next (hr.mono (by decide)) (by rfl) (pv 0) (qa_cons qe_int qa_nil))))
      (qss_cons (qs_set (i := 2) sc_no_stand.nd rfl (by first | exact Or.inl rfl | exact Or.inr rfl) (qe_lst (qa_cons qe_str (qa_cons (qe_op (op_addA ft) ok_add (qe_name (pv 1)) qe_str) (qa_cons (qe_op (op_addA ft) ok_add qe_str (qe_name (pv 1))) (qa_cons (qe_upper ft (qe_name (pv 1))) (qa_cons (qe_slice ft (qe_name (pv 1)) qo_none (qo_some (qe_un un_neg ok_neg qe_int))) (qa_cons (qe_op (op_addA ft) ok_add (qe_name (pv 1)) qe_str) (qa_cons qe_str (qa_cons qe_str (qa_cons (qe_tup (qa_cons (qe_name (pv 1)) qa_nil)) (qa_cons (qe_lst (qa_cons (qe_name (pv 1)) qa_nil)) qa_nil))))))))))))
      (qss_cons (qs_set (i := 2) sc_no_stand.nd rfl (by first | exact Or.inl rfl | exact Or.inr rfl) (qe_op (op_addA ft) ok_add (qe_name (pv 2)) (qe_lst (qa_cons qe_int (qa_cons qe_int (qa_cons qe_bl (qa_cons qe_bl (qa_cons qe_noDict (qa_cons (qe_tup qa_nil) qa_nil)))))))))
      (qss_one (qs_ret (qe_ix ft (qe_name (pv 2)) (qe_callB ft O_next (hr.mono (by decide)) (by rfl) (pv 0) (qa_cons (qe_callB' (ca_len ft) ok_len (by rfl) T.m_len (by decide +kernel) (qa_cons (qe_name (pv 2)) qa_nil)) qa_nil)))))))))
def d_spoilt : DS :=
    (seqD (ifD (boolT (lift2 gLt (nameD 1) (conD (.int 2))))
    (retD (callBD D_no_size 0 []))
    nextD)
    (seqD (ifD (boolT (lift2 gLt (nameD 1) (conD (.int 6))))
    (retD (callBD D_no_count 0 []))
    nextD)
    (seqD (ifD (boolT (lift2 gLt (nameD 1) (conD (.int 8))))
    (retD (lift2 gIx (lstD [(callBD D_no_count 0 []), (conD .non)]) (callG gIntC [(lift2 (gEq false) (callBD D_next 0 [(conD (.int 6))]) (conD (.int 0)))])))
    nextD)
    (seqD (ifD (boolT (lift2 (gEq false) (nameD 1) (conD (.int 8))))
    (retD (callBD D_no_rims 0 []))
    nextD)
    (retD (callBD D_no_stand 0 []))))))
def D_spoilt : DF := bodyB 2 d_spoilt
theorem ok_spoilt {P : Program} {w : World} {K : PySem.W.Frag} {mg : Str → Option Value} {base : Heap} (T : Txt K mg) : Ok P w K mg base CX0 "_law_spoilt" s_spoilt 9 ["_law_source_here", "_law_at"] (spB K mg 2 D_spoilt) := by
  have O_no_stand := ok_no_stand (P := P) (w := w) (base := base) T
  have O_no_size := ok_no_size (P := P) (w := w) (base := base) T
  have O_no_count := ok_no_count (P := P) (w := w) (base := base) T
  have O_no_rims := ok_no_rims (P := P) (w := w) (base := base) T
  have O_next := ok_next (P := P) (w := w) (base := base) T
  exact T.h_spoilt.okB (N := n_spoilt) (g := d_spoilt) sc_spoilt (by decide) (fun f cdv A outer s H E F p hr ft => (qss_cons (qs_if (qt_cmp op_lt ok_lt (qe_name (pv 1)) qe_int (nomark _))
      (qss_one (qs_ret (qe_callB ft O_no_size (hr.mono (by decide)) (by rfl) (pv 0) qa_nil)))
      qss_nil)
      (qss_cons (qs_if (qt_cmp op_lt ok_lt (qe_name (pv 1)) qe_int (nomark _))
      (qss_one (qs_ret (qe_callB ft O_no_count (hr.mono (by decide)) (by rfl) (pv 0) qa_nil)))
      qss_nil)
      (qss_cons (qs_if (qt_cmp op_lt ok_lt (qe_name (pv 1)) qe_int (nomark _))
      (qss_one (qs_ret (qe_ix ft (qe_lst (qa_cons (qe_callB ft O_no_count (hr.mono (by decide)) (by rfl) (pv 0) qa_nil) (qa_cons qe_non qa_nil))) (qe_callT call_int1 ok_intC (by rfl) T.m_int (by decide +kernel) (qa_cons (qe_cmp (op_eqA ft hr.units) ok_eq (qe_callB ft O_next (hr.mono (by decide)) (by rfl) (pv 0) (qa_cons qe_int qa_nil)) qe_int (nomark _)) qa_nil)))))
      qss_nil)
      (qss_cons (qs_if (qt_cmp (op_eqA ft hr.units) ok_eq (qe_name (pv 1)) qe_int (nomark _))
      (qss_one (qs_ret (qe_callB ft O_no_rims (hr.mono (by decide)) (by rfl) (pv 0) qa_nil)))
      qss_nil)
      (qss_one (qs_ret (qe_callB ft O_no_stand (hr.mono (by decide)) (by rfl) (pv 0) qa_nil))))))))
def d_all : DS :=
    (seqD (asgD (gTupD 5 (gConsD (gNameD 1) (gConsD (gNameD 2) (gConsD (gNameD 3) (gConsD (gNameD 4) (gConsD (gNameD 5) gNilD)))))) (sliceD (nameD 0) partN (partD (conD (.int 5)))))
    (seqD (asgD (gTupD 5 (gConsD (gNameD 6) (gConsD (gNameD 7) (gConsD (gNameD 8) (gConsD (gNameD 9) (gConsD (gNameD 10) gNilD)))))) (sliceD (nameD 0) (partD (conD (.int 5))) partN))
    (retD (makeKD D_Style_init "Style" (fun zs => fill [some 0, some 1, some 2, some 3, some 4, some 5, some 6, some 7, some 8, some 9] df_Style zs) [(nameD 1), (nameD 2), (nameD 3), (nameD 4), (nameD 5), (nameD 6), (nameD 7), (nameD 8), (nameD 9), (nameD 10)]))))
def D_all : DF := bodyF 11 d_all
def dX_all : DS :=
    (seqD (asgD (gTupD 5 (gConsD (gNameD 1) (gConsD (gNameD 2) (gConsD (gNameD 3) (gConsD (gNameD 4) (gConsD (gNameD 5) gNilD)))))) (sliceD (nameD 0) partN (partD (conD (.int 5)))))
    (seqD (asgD (gTupD 5 (gConsD (gNameD 6) (gConsD (gNameD 7) (gConsD (gNameD 8) (gConsD (gNameD 9) (gConsD (gNameD 10) gNilD)))))) (sliceD (nameD 0) (partD (conD (.int 5))) partN))
    (retD (makeKXD DX_Style_init "Style" (fun zs => fill [some 0, some 1, some 2, some 3, some 4, some 5, some 6, some 7, some 8, some 9] df_Style zs) [(nameD 1), (nameD 2), (nameD 3), (nameD 4), (nameD 5), (nameD 6), (nameD 7), (nameD 8), (nameD 9), (nameD 10)]))))
def DX_all : DF := bodyF 11 dX_all
theorem sh_Style_1_2_3_4_5_6_7_8_9_10 : ShapeF s_Style_init ["self"] ["wide", "high", "least_wide", "least_high", "most_wide", "most_high", "grow", "shrink", "rims", "stand"] ["wide", "high", "least_wide", "least_high", "most_wide", "most_high", "grow", "shrink", "rims", "stand"] [some 0, some 1, some 2, some 3, some 4, some 5, some 6, some 7, some 8, some 9] := ⟨rfl, rfl, rfl, rfl, rfl, by decide +kernel, by decide +kernel, by decide +kernel, by decide +kernel⟩
theorem okX_all {P : Program} {w : World} {K : PySem.W.Frag} {mg : Str → Option Value} {base : Heap} (T : Txt K mg) : Ok P w K mg base (L2N.CX P w) "_law_all" s_all 7 ["_law_values_here"] (spP K mg 1 DX_all) := by
  have OX_Style_init := okX_Style_init (P := P) (w := w) (base := base) T
  exact T.h_all.okDXN (N := n_all) (g := dX_all) sc_all (fun f cdv A outer s H E F hr ft => (with_tkN (fun tk => (qss_cons (qs_asg (qe_slice ft (qe_name (pv 0)) qo_none (qo_some qe_int)) (qg_tup ft rfl (qgs_cons (qg_name (i := 1) sc_all.nd rfl (by first | exact Or.inl rfl | exact Or.inr rfl)) (qgs_cons (qg_name (i := 2) sc_all.nd rfl (by first | exact Or.inl rfl | exact Or.inr rfl)) (qgs_cons (qg_name (i := 3) sc_all.nd rfl (by first | exact Or.inl rfl | exact Or.inr rfl)) (qgs_cons (qg_name (i := 4) sc_all.nd rfl (by first | exact Or.inl rfl | exact Or.inr rfl)) (qgs_cons (qg_name (i := 5) sc_all.nd rfl (by first | exact Or.inl rfl | exact Or.inr rfl)) qgs_nil)))))))
      (qss_cons (qs_asg (qe_slice ft (qe_name (pv 0)) (qo_some qe_int) qo_none) (qg_tup ft rfl (qgs_cons (qg_name (i := 6) sc_all.nd rfl (by first | exact Or.inl rfl | exact Or.inr rfl)) (qgs_cons (qg_name (i := 7) sc_all.nd rfl (by first | exact Or.inl rfl | exact Or.inr rfl)) (qgs_cons (qg_name (i := 8) sc_all.nd rfl (by first | exact Or.inl rfl | exact Or.inr rfl)) (qgs_cons (qg_name (i := 9) sc_all.nd rfl (by first | exact Or.inl rfl | exact Or.inr rfl)) (qgs_cons (qg_name (i := 10) sc_all.nd rfl (by first | exact Or.inl rfl | exact Or.inr rfl)) qgs_nil)))))))
      (qss_one (qs_ret (qe_makeKXN (dv := dv_Style mg) ft rfl tk OX_Style_init sh_Style_1_2_3_4_5_6_7_8_9_10 (hr.mono (by decide)) (by rfl) (qk_cons (qe_name (pv 1)) (qk_cons (qe_name (pv 2)) (qk_cons (qe_name (pv 3)) (qk_cons (qe_name (pv 4)) (qk_cons (qe_name (pv 5)) (qk_cons (qe_name (pv 6)) (qk_cons (qe_name (pv 7)) (qk_cons (qe_name (pv 8)) (qk_cons (qe_name (pv 9)) (qk_cons (qe_name (pv 10)) qk_nil)))))))))) rfl (fun q h _ => dm_Style K mg q h) (dr_Style T))))))) (L2N.takes_of rfl rfl rfl rfl)))
theorem ok_all {P : Program} {w : World} {K : PySem.W.Frag} {mg : Str → Option Value} {base : Heap} (T : Txt K mg) : Ok P w K mg base CX0 "_law_all" s_all 7 ["_law_values_here"] (sp0 K mg 1 D_all) := by
  have O_Style_init := ok_Style_init (P := P) (w := w) (base := base) T
  exact T.h_all.okD (N := n_all) (g := d_all) sc_all (fun f cdv A outer s H E F hr ft => (qss_cons (qs_asg (qe_slice ft (qe_name (pv 0)) qo_none (qo_some qe_int)) (qg_tup ft rfl (qgs_cons (qg_name (i := 1) sc_all.nd rfl (by first | exact Or.inl rfl | exact Or.inr rfl)) (qgs_cons (qg_name (i := 2) sc_all.nd rfl (by first | exact Or.inl rfl | exact Or.inr rfl)) (qgs_cons (qg_name (i := 3) sc_all.nd rfl (by first | exact Or.inl rfl | exact Or.inr rfl)) (qgs_cons (qg_name (i := 4) sc_all.nd rfl (by first | exact Or.inl rfl | exact Or.inr rfl)) (qgs_cons (qg_name (i := 5) sc_all.nd rfl (by first | exact Or.inl rfl | exact Or.inr rfl)) qgs_nil)))))))
      (qss_cons (qs_asg (qe_slice ft (qe_name (pv 0)) (qo_some qe_int) qo_none) (qg_tup ft rfl (qgs_cons (qg_name (i := 6) sc_all.nd rfl (by first | exact Or.inl rfl | exact Or.inr rfl)) (qgs_cons (qg_name (i := 7) sc_all.nd rfl (by first | exact Or.inl rfl | exact Or.inr rfl)) (qgs_cons (qg_name (i := 8) sc_all.nd rfl (by first | exact Or.inl rfl | exact Or.inr rfl)) (qgs_cons (qg_name (i := 9) sc_all.nd rfl (by first | exact Or.inl rfl | exact Or.inr rfl)) (qgs_cons (qg_name (i := 10) sc_all.nd rfl (by first | exact Or.inl rfl | exact Or.inr rfl)) qgs_nil)))))))
      (qss_one (qs_ret (qe_makeK (dv := dv_Style mg) ft O_Style_init sh_Style_1_2_3_4_5_6_7_8_9_10 (hr.mono (by decide)) (by rfl) (qk_cons (qe_name (pv 1)) (qk_cons (qe_name (pv 2)) (qk_cons (qe_name (pv 3)) (qk_cons (qe_name (pv 4)) (qk_cons (qe_name (pv 5)) (qk_cons (qe_name (pv 6)) (qk_cons (qe_name (pv 7)) (qk_cons (qe_name (pv 8)) (qk_cons (qe_name (pv 9)) (qk_cons (qe_name (pv 10)) qk_nil)))))))))) rfl (fun q h _ => dm_Style K mg q h) (dr_Style T)))))))
def d_alone : DS :=
    (seqD (ifD (boolT (lift2 (gEq false) (nameD 0) (conD (.int 0))))
    (retD (makeKXD DX_Style_init "Style" (fun zs => fill [some 0, none, none, none, none, none, none, none, none, none] df_Style zs) [(nameD 1)]))
    nextD)
    (seqD (ifD (boolT (lift2 (gEq false) (nameD 0) (conD (.int 1))))
    (retD (makeKXD DX_Style_init "Style" (fun zs => fill [none, some 0, none, none, none, none, none, none, none, none] df_Style zs) [(nameD 1)]))
    nextD)
    (seqD (ifD (boolT (lift2 (gEq false) (nameD 0) (conD (.int 2))))
    (retD (makeKXD DX_Style_init "Style" (fun zs => fill [none, none, some 0, none, none, none, none, none, none, none] df_Style zs) [(nameD 1)]))
    nextD)
    (seqD (ifD (boolT (lift2 (gEq false) (nameD 0) (conD (.int 3))))
    (retD (makeKXD DX_Style_init "Style" (fun zs => fill [none, none, none, some 0, none, none, none, none, none, none] df_Style zs) [(nameD 1)]))
    nextD)
    (seqD (ifD (boolT (lift2 (gEq false) (nameD 0) (conD (.int 4))))
    (retD (makeKXD DX_Style_init "Style" (fun zs => fill [none, none, none, none, some 0, none, none, none, none, none] df_Style zs) [(nameD 1)]))
    nextD)
    (seqD (ifD (boolT (lift2 (gEq false) (nameD 0) (conD (.int 5))))
    (retD (makeKXD DX_Style_init "Style" (fun zs => fill [none, none, none, none, none, some 0, none, none, none, none] df_Style zs) [(nameD 1)]))
    nextD)
    (seqD (ifD (boolT (lift2 (gEq false) (nameD 0) (conD (.int 6))))
    (retD (makeKXD DX_Style_init "Style" (fun zs => fill [none, none, none, none, none, none, some 0, none, none, none] df_Style zs) [(nameD 1)]))
    nextD)
    (seqD (ifD (boolT (lift2 (gEq false) (nameD 0) (conD (.int 7))))
    (retD (makeKXD DX_Style_init "Style" (fun zs => fill [none, none, none, none, none, none, none, some 0, none, none] df_Style zs) [(nameD 1)]))
    nextD)
    (seqD (ifD (boolT (lift2 (gEq false) (nameD 0) (conD (.int 8))))
    (retD (makeKXD DX_Style_init "Style" (fun zs => fill [none, none, none, none, none, none, none, none, some 0, none] df_Style zs) [(nameD 1)]))
    nextD)
    (retD (makeKXD DX_Style_init "Style" (fun zs => fill [none, none, none, none, none, none, none, none, none, some 0] df_Style zs) [(nameD 1)])))))))))))
def D_alone : DF := bodyF 2 d_alone
theorem sh_Style_10 : ShapeF s_Style_init ["self"] ["wide", "high", "least_wide", "least_high", "most_wide", "most_high", "grow", "shrink", "rims", "stand"] ["stand"] [none, none, none, none, none, none, none, none, none, some 0] := ⟨rfl, rfl, rfl, rfl, rfl, by decide +kernel, by decide +kernel, by decide +kernel, by decide +kernel⟩
theorem sh_Style_9 : ShapeF s_Style_init ["self"] ["wide", "high", "least_wide", "least_high", "most_wide", "most_high", "grow", "shrink", "rims", "stand"] ["rims"] [none, none, none, none, none, none, none, none, some 0, none] := ⟨rfl, rfl, rfl, rfl, rfl, by decide +kernel, by decide +kernel, by decide +kernel, by decide +kernel⟩
theorem sh_Style_8 : ShapeF s_Style_init ["self"] ["wide", "high", "least_wide", "least_high", "most_wide", "most_high", "grow", "shrink", "rims", "stand"] ["shrink"] [none, none, none, none, none, none, none, some 0, none, none] := ⟨rfl, rfl, rfl, rfl, rfl, by decide +kernel, by decide +kernel, by decide +kernel, by decide +kernel⟩
theorem sh_Style_7 : ShapeF s_Style_init ["self"] ["wide", "high", "least_wide", "least_high", "most_wide", "most_high", "grow", "shrink", "rims", "stand"] ["grow"] [none, none, none, none, none, none, some 0, none, none, none] := ⟨rfl, rfl, rfl, rfl, rfl, by decide +kernel, by decide +kernel, by decide +kernel, by decide +kernel⟩
theorem sh_Style_6 : ShapeF s_Style_init ["self"] ["wide", "high", "least_wide", "least_high", "most_wide", "most_high", "grow", "shrink", "rims", "stand"] ["most_high"] [none, none, none, none, none, some 0, none, none, none, none] := ⟨rfl, rfl, rfl, rfl, rfl, by decide +kernel, by decide +kernel, by decide +kernel, by decide +kernel⟩
theorem sh_Style_5 : ShapeF s_Style_init ["self"] ["wide", "high", "least_wide", "least_high", "most_wide", "most_high", "grow", "shrink", "rims", "stand"] ["most_wide"] [none, none, none, none, some 0, none, none, none, none, none] := ⟨rfl, rfl, rfl, rfl, rfl, by decide +kernel, by decide +kernel, by decide +kernel, by decide +kernel⟩
theorem sh_Style_4 : ShapeF s_Style_init ["self"] ["wide", "high", "least_wide", "least_high", "most_wide", "most_high", "grow", "shrink", "rims", "stand"] ["least_high"] [none, none, none, some 0, none, none, none, none, none, none] := ⟨rfl, rfl, rfl, rfl, rfl, by decide +kernel, by decide +kernel, by decide +kernel, by decide +kernel⟩
theorem sh_Style_3 : ShapeF s_Style_init ["self"] ["wide", "high", "least_wide", "least_high", "most_wide", "most_high", "grow", "shrink", "rims", "stand"] ["least_wide"] [none, none, some 0, none, none, none, none, none, none, none] := ⟨rfl, rfl, rfl, rfl, rfl, by decide +kernel, by decide +kernel, by decide +kernel, by decide +kernel⟩
theorem sh_Style_2 : ShapeF s_Style_init ["self"] ["wide", "high", "least_wide", "least_high", "most_wide", "most_high", "grow", "shrink", "rims", "stand"] ["high"] [none, some 0, none, none, none, none, none, none, none, none] := ⟨rfl, rfl, rfl, rfl, rfl, by decide +kernel, by decide +kernel, by decide +kernel, by decide +kernel⟩
theorem sh_Style_1 : ShapeF s_Style_init ["self"] ["wide", "high", "least_wide", "least_high", "most_wide", "most_high", "grow", "shrink", "rims", "stand"] ["wide"] [some 0, none, none, none, none, none, none, none, none, none] := ⟨rfl, rfl, rfl, rfl, rfl, by decide +kernel, by decide +kernel, by decide +kernel, by decide +kernel⟩
theorem okX_alone {P : Program} {w : World} {K : PySem.W.Frag} {mg : Str → Option Value} {base : Heap} (T : Txt K mg) : Ok P w K mg base (L2N.CX P w) "_law_alone" s_alone 7 ["_law_at", "_law_value"] (spP K mg 2 D_alone) := by
  have OX_Style_init := okX_Style_init (P := P) (w := w) (base := base) T
  exact T.h_alone.okDXN (N := n_alone) (g := d_alone) sc_alone (fun f cdv A outer s H E F hr ft => (with_tkN (fun tk => (qss_cons (qs_if (qt_cmp (op_eqA ft hr.units) ok_eq (qe_name (pv 0)) qe_int (nomark _))
      (qss_one (qs_ret (qe_makeKXN (dv := dv_Style mg) ft rfl tk OX_Style_init sh_Style_1 (hr.mono (by decide)) (by rfl) (qk_cons (qe_name (pv 1)) qk_nil) rfl (fun q h _ => dm_Style K mg q h) (dr_Style T))))
      qss_nil)
      (qss_cons (qs_if (qt_cmp (op_eqA ft hr.units) ok_eq (qe_name (pv 0)) qe_int (nomark _))
      (qss_one (qs_ret (qe_makeKXN (dv := dv_Style mg) ft rfl tk OX_Style_init sh_Style_2 (hr.mono (by decide)) (by rfl) (qk_cons (qe_name (pv 1)) qk_nil) rfl (fun q h _ => dm_Style K mg q h) (dr_Style T))))
      qss_nil)
      (qss_cons (qs_if (qt_cmp (op_eqA ft hr.units) ok_eq (qe_name (pv 0)) qe_int (nomark _))
      (qss_one (qs_ret (qe_makeKXN (dv := dv_Style mg) ft rfl tk OX_Style_init sh_Style_3 (hr.mono (by decide)) (by rfl) (qk_cons (qe_name (pv 1)) qk_nil) rfl (fun q h _ => dm_Style K mg q h) (dr_Style T))))
      qss_nil)
      (qss_cons (qs_if (qt_cmp (op_eqA ft hr.units) ok_eq (qe_name (pv 0)) qe_int (nomark _))
      (qss_one (qs_ret (qe_makeKXN (dv := dv_Style mg) ft rfl tk OX_Style_init sh_Style_4 (hr.mono (by decide)) (by rfl) (qk_cons (qe_name (pv 1)) qk_nil) rfl (fun q h _ => dm_Style K mg q h) (dr_Style T))))
      qss_nil)
      (qss_cons (qs_if (qt_cmp (op_eqA ft hr.units) ok_eq (qe_name (pv 0)) qe_int (nomark _))
      (qss_one (qs_ret (qe_makeKXN (dv := dv_Style mg) ft rfl tk OX_Style_init sh_Style_5 (hr.mono (by decide)) (by rfl) (qk_cons (qe_name (pv 1)) qk_nil) rfl (fun q h _ => dm_Style K mg q h) (dr_Style T))))
      qss_nil)
      (qss_cons (qs_if (qt_cmp (op_eqA ft hr.units) ok_eq (qe_name (pv 0)) qe_int (nomark _))
      (qss_one (qs_ret (qe_makeKXN (dv := dv_Style mg) ft rfl tk OX_Style_init sh_Style_6 (hr.mono (by decide)) (by rfl) (qk_cons (qe_name (pv 1)) qk_nil) rfl (fun q h _ => dm_Style K mg q h) (dr_Style T))))
      qss_nil)
      (qss_cons (qs_if (qt_cmp (op_eqA ft hr.units) ok_eq (qe_name (pv 0)) qe_int (nomark _))
      (qss_one (qs_ret (qe_makeKXN (dv := dv_Style mg) ft rfl tk OX_Style_init sh_Style_7 (hr.mono (by decide)) (by rfl) (qk_cons (qe_name (pv 1)) qk_nil) rfl (fun q h _ => dm_Style K mg q h) (dr_Style T))))
      qss_nil)
      (qss_cons (qs_if (qt_cmp (op_eqA ft hr.units) ok_eq (qe_name (pv 0)) qe_int (nomark _))
      (qss_one (qs_ret (qe_makeKXN (dv := dv_Style mg) ft rfl tk OX_Style_init sh_Style_8 (hr.mono (by decide)) (by rfl) (qk_cons (qe_name (pv 1)) qk_nil) rfl (fun q h _ => dm_Style K mg q h) (dr_Style T))))
      qss_nil)
      (qss_cons (qs_if (qt_cmp (op_eqA ft hr.units) ok_eq (qe_name (pv 0)) qe_int (nomark _))
      (qss_one (qs_ret (qe_makeKXN (dv := dv_Style mg) ft rfl tk OX_Style_init sh_Style_9 (hr.mono (by decide)) (by rfl) (qk_cons (qe_name (pv 1)) qk_nil) rfl (fun q h _ => dm_Style K mg q h) (dr_Style T))))
      qss_nil)
      (qss_one (qs_ret (qe_makeKXN (dv := dv_Style mg) ft rfl tk OX_Style_init sh_Style_10 (hr.mono (by decide)) (by rfl) (qk_cons (qe_name (pv 1)) qk_nil) rfl (fun q h _ => dm_Style K mg q h) (dr_Style T)))))))))))))) (L2N.takes_of rfl rfl rfl rfl)))
def d_only : DS :=
    (seqD (setD 1 (lstD [(isED 0 sub_NoName), (isED 0 sub_NoNumber), (isED 0 sub_NoText), (isED 0 sub_NoBox)]))
    (seqD (setD 1 (lift2 gAdd (nameD 1) (lstD [(isED 0 sub_NoStand), (isED 0 sub_NoTree), (isED 0 sub_NoTruth), (isED 0 sub_NoRow)])))
    (retD (andV (isED 0 sub_NoStyle) (andV (isED 0 sub_ValueError) (notV (callG gAny [(nameD 1)])))))))
def D_only : Str → R (List D) (Sl × List D) := bodyE 2 d_only
theorem ok_only {P : Program} {w : World} {K : PySem.W.Frag} {mg : Str → Option Value} {base : Heap} (T : Txt K mg) : OkE P w K mg base "_law_only" s_only 1 ["_law_e"] cl_NestError D_only := by
  exact T.h_only.okE (N := n_only) (g := d_only) sc_only (by decide) (fun f cdv A outer s H F a oe c hr hcl hz hf hot ft => (qss_cons (qs_set (i := 1) sc_only.nd rfl (by first | exact Or.inl rfl | exact Or.inr rfl) (qe_lst (qa_cons (qe_isY (cv := V.ref (clsA mg "NoName")) (cw := Value.ref (clsA mg "NoName")) ft (exc_of T hcl) hz.zc hf List.mem_cons_self (fun b h => sub_NoName_of T h) (fun u h => h) (by rfl) T.m_isinstance (pv 0) (pe_glob (v := V.ref (clsA mg "NoName")) (u := Value.ref (clsA mg "NoName")) (by rfl) (gC_NoName T) (by rfl))) (qa_cons (qe_isY (cv := V.ref (clsA mg "NoNumber")) (cw := Value.ref (clsA mg "NoNumber")) ft (exc_of T hcl) hz.zc hf List.mem_cons_self (fun b h => sub_NoNumber_of T h) (fun u h => h) (by rfl) T.m_isinstance (pv 0) (pe_glob (v := V.ref (clsA mg "NoNumber")) (u := Value.ref (clsA mg "NoNumber")) (by rfl) (gC_NoNumber T) (by rfl))) (qa_cons (qe_isY (cv := V.ref (clsA mg "NoText")) (cw := Value.ref (clsA mg "NoText")) ft (exc_of T hcl) hz.zc hf List.mem_cons_self (fun b h => sub_NoText_of T h) (fun u h => h) (by rfl) T.m_isinstance (pv 0) (pe_glob (v := V.ref (clsA mg "NoText")) (u := Value.ref (clsA mg "NoText")) (by rfl) (gC_NoText T) (by rfl))) (qa_cons (qe_isY (cv := V.ref (clsA mg "NoBox")) (cw := Value.ref (clsA mg "NoBox")) ft (exc_of T hcl) hz.zc hf List.mem_cons_self (fun b h => sub_NoBox_of T h) (fun u h => h) (by rfl) T.m_isinstance (pv 0) (pe_glob (v := V.ref (clsA mg "NoBox")) (u := Value.ref (clsA mg "NoBox")) (by rfl) (gC_NoBox T) (by rfl))) qa_nil))))))
      (qss_cons (qs_set (i := 1) sc_only.nd rfl (by first | exact Or.inl rfl | exact Or.inr rfl) (qe_op (op_addA ft) ok_add (qe_name (pv 1)) (qe_lst (qa_cons (qe_isY (cv := V.ref (clsA mg "NoStand")) (cw := Value.ref (clsA mg "NoStand")) ft (exc_of T hcl) hz.zc hf List.mem_cons_self (fun b h => sub_NoStand_of T h) (fun u h => h) (by rfl) T.m_isinstance (pv 0) (pe_glob (v := V.ref (clsA mg "NoStand")) (u := Value.ref (clsA mg "NoStand")) (by rfl) (gC_NoStand T) (by rfl))) (qa_cons (qe_isY (cv := V.ref (clsA mg "NoTree")) (cw := Value.ref (clsA mg "NoTree")) ft (exc_of T hcl) hz.zc hf List.mem_cons_self (fun b h => sub_NoTree_of T h) (fun u h => h) (by rfl) T.m_isinstance (pv 0) (pe_glob (v := V.ref (clsA mg "NoTree")) (u := Value.ref (clsA mg "NoTree")) (by rfl) (gC_NoTree T) (by rfl))) (qa_cons (qe_isY (cv := V.ref (clsA mg "NoTruth")) (cw := Value.ref (clsA mg "NoTruth")) ft (exc_of T hcl) hz.zc hf List.mem_cons_self (fun b h => sub_NoTruth_of T h) (fun u h => h) (by rfl) T.m_isinstance (pv 0) (pe_glob (v := V.ref (clsA mg "NoTruth")) (u := Value.ref (clsA mg "NoTruth")) (by rfl) (gC_NoTruth T) (by rfl))) (qa_cons (qe_isY (cv := V.ref (clsA mg "NoRow")) (cw := Value.ref (clsA mg "NoRow")) ft (exc_of T hcl) hz.zc hf List.mem_cons_self (fun b h => sub_NoRow_of T h) (fun u h => h) (by rfl) T.m_isinstance (pv 0) (pe_glob (v := V.ref (clsA mg "NoRow")) (u := Value.ref (clsA mg "NoRow")) (by rfl) (gC_NoRow T) (by rfl))) qa_nil)))))))
      (qss_one (qs_ret (qe_and (qe_isY (cv := V.ref (clsA mg "NoStyle")) (cw := Value.ref (clsA mg "NoStyle")) ft (exc_of T hcl) hz.zc hf List.mem_cons_self (fun b h => sub_NoStyle_of T h) (fun u h => h) (by rfl) T.m_isinstance (pv 0) (pe_glob (v := V.ref (clsA mg "NoStyle")) (u := Value.ref (clsA mg "NoStyle")) (by rfl) (gC_NoStyle T) (by rfl))) (qe_and (qe_isY (cv := V.ty "ValueError") (cw := Value.type "ValueError") ft (exc_of T hcl) hz.zc hf List.mem_cons_self (fun b h => sub_ValueError_of T h) (fun u h => h) (by rfl) T.m_isinstance (pv 0) (pe_bltn (v := V.ty "ValueError") (u := Value.type "ValueError") (by rfl) T.m_ValueError (by decide +kernel) (by rfl))) (qe_one (qe_not (qe_callB' (ca_anyH ft hot) ok_any (by rfl) T.m_any (by decide +kernel) (qa_cons (qe_name (pv 1)) qa_nil)))))))))))
def d_refused : DS :=
    (seqD (tryD (ifD (boolT (lift2 (gIs false) (nameD 1) (conD .non)))
    (exprD (callD DX_all [(nameD 0)]))
    (exprD (callD D_alone [(nameD 1), (lift2 gIx (nameD 0) (nameD 1))]))) 2 cl_NestError
    (retD (callED D_only 2)))
    (retD (conD (.bl false))))
def D_refused : DF := bodyF 3 d_refused
theorem ok_refused {P : Program} {w : World} {K : PySem.W.Frag} {mg : Str → Option Value} {base : Heap} (T : Txt K mg) : Ok P w K mg base CX0 "_law_refused" s_refused 8 ["_law_values_here", "_law_at"] (sp0 K mg 2 D_refused) := by
  have OX_all := okX_all (P := P) (w := w) (base := base) T
  have O_all := ok_all (P := P) (w := w) (base := base) T
  have OX_alone := okX_alone (P := P) (w := w) (base := base) T
  have O_only := ok_only (P := P) (w := w) (base := base) T
  exact T.h_refused.okD (N := n_refused) (g := d_refused) sc_refused (fun f cdv A outer s H E F hr ft => (qss_cons (qs_try_asN (i := 2) (cl := cl_NestError) ft rfl rfl sc_refused.nd rfl rfl ⟨rfl, by decide, .inl (gC_NestError T)⟩ (caught_NestError T) (fun W pn xe tk po => (qss_one (qs_if (qt_cmp op_isN ok_is (qe_name (pv 1)) qe_non (nomark _))
      (qss_one (qs_expr (qe_callXN ⟨ft.k, ft.m⟩ OX_all (hr.mono (by decide)) (by rfl) tk (qa_cons (qe_name (pv 0)) qa_nil))))
      (qss_one (qs_expr (qe_callXN ⟨ft.k, ft.m⟩ OX_alone (hr.mono (by decide)) (by rfl) tk (qa_cons (qe_name (pv 1)) (qa_cons (qe_ix ⟨ft.k, ft.m⟩ (qe_name (pv 0)) (qe_name (pv 1))) qa_nil))))))))
      (fun a oe pn c hcl hz hf => (qss_one (qs_ret (qe_callE ft O_only rfl hcl hz hf (hr.mono (by decide)) (by rfl) (pv 2))))))
      (qss_one (qs_ret qe_bl))))
def d_Style_eq : DS :=
    (retD (andV (isOD ow_Style (nameD 1)) (lift2 (gEq false) (callD D_p_fields_of [(nameD 0)]) (callD D_p_fields_of [(nameD 1)]))))
def D_Style_eq : DF := bodyF 2 d_Style_eq
theorem ok_Style_eq {P : Program} {w : World} {K : PySem.W.Frag} {mg : Str → Option Value} {base : Heap} (T : Txt K mg) : OkQ P w K mg base "Style" 2 D_Style_eq := by
  have O_p_fields_of := ok_p_fields_of (P := P) (w := w) (base := base) T
  exact T.q_Style.ok (N := n_Style_eq) (g := d_Style_eq) sc_Style_eq (fun _ _ _ _ _ _ _ _ us hl => match us, hl with | [_, _], _ => rfl) (fun f cdv A outer s H E F hr ft => (qss_one (qs_ret (qe_and (qe_isO ft (own_Style T) (by rfl) T.m_isinstance (by rfl) (qe_name (pv 1))) (qe_one (qe_cmp (op_eqA ft hr.units) ok_eq (qe_call ft O_p_fields_of rfl (hr.mono (by decide)) (by rfl) (qa_cons (qe_name (pv 0)) qa_nil)) (qe_call ft O_p_fields_of rfl (hr.mono (by decide)) (by rfl) (qa_cons (qe_name (pv 1)) qa_nil)) (nomark _)))))))
def d_law : DS :=
    (seqD (forS (iterG gR1 [(callG gMax2 [(conD (.int 1)), (callG gMin2 [(conD (.int 12)), (callG gLen [(nameD 0)])])])]) (gNameD 1)
    (seqD (setD 2 (callD D_source [(callD D_cell_at [(nameD 0), (nameD 1)])]))
    (seqD (setD 3 (compD (iterG gR1 [(lift2 gAdd (conD (.int 1)) (lift2 gDiv (callBD D_next 2 [(conD (.int 6))]) (conD (.int 2))))]) (gNameD 4) yesT (callBD D_next 2 [(conD (.int 10))]) [4] []))
    (seqD (setD 5 (compD (iterE (nameD 3)) (gNameD 6) yesT (callBD D_spoilt 2 [(nameD 6)]) [6] []))
    (seqD (setD 7 (callBD D_values 2 []))
    (seqD (setD 8 (callG gList [(nameD 7)]))
    (seqD (forS (iterG gZipA [(nameD 3), (nameD 5)]) (gTupD 2 (gConsD (gNameD 6) (gConsD (gNameD 9) gNilD)))
    (setIxD 8 (nameD 9) (nameD 6)))
    (seqD (ifD (boolT (lift2 (gNeO "Style" D_Style_eq) (callD D_all [(nameD 7)]) (callD D_all [(nameD 7)])))
    (retD (conD (.bl false)))
    nextD)
    (seqD (ifD (orT (notT (boolT (callD D_refused [(nameD 8), (conD .non)]))) (notT (boolT (callD D_refused [(nameD 8), (lift2 gIx (nameD 3) (conD (.int 0)))]))))
    (retD (conD (.bl false)))
    nextD)
    (ifD (orT (boolT (callD D_refused [(nameD 7), (conD .non)])) (boolT (callD D_refused [(nameD 7), (lift2 gIx (nameD 3) (conD (.int 0)))])))
    (retD (conD (.bl false)))
    nextD))))))))))
    (retD (conD (.bl true))))
def D_law : DF := bodyF 10 d_law
theorem ok_law {P : Program} {w : World} {K : PySem.W.Frag} {mg : Str → Option Value} {base : Heap} {f0 : Addr} {fd0 : FuncData} (F0 : Fun K "law" "law" s_law f0 fd0) (T : Txt K mg) : FnOk P w K mg base CX0 10 f0 fd0 ["_law_script"] (sp0 K mg 1 D_law) := by
  have O_source := ok_source (P := P) (w := w) (base := base) T
  have O_values := ok_values (P := P) (w := w) (base := base) T
  have O_Style_eq := ok_Style_eq (P := P) (w := w) (base := base) T
  have O_cell_at := ok_cell_at (P := P) (w := w) (base := base) T
  have O_next := ok_next (P := P) (w := w) (base := base) T
  have O_spoilt := ok_spoilt (P := P) (w := w) (base := base) T
  have O_all := ok_all (P := P) (w := w) (base := base) T
  have O_refused := ok_refused (P := P) (w := w) (base := base) T
  exact okLaw F0 (N := n_law) (g := d_law) sc_law (fun cdv A outer s H E F hr ft => (qss_cons (qs_for PassesOwn.never (by rfl) (qi_range1 (by rfl) T.m_range (qa_cons (qe_callB' (call_max2 rfl) ok_max2 (by rfl) T.m_max (by decide +kernel) (qa_cons qe_int (qa_cons (qe_callB' (call_min2 rfl) ok_min2 (by rfl) T.m_min (by decide +kernel) (qa_cons qe_int (qa_cons (qe_callB' (ca_len ft) ok_len (by rfl) T.m_len (by decide +kernel) (qa_cons (qe_name (pv 0)) qa_nil)) qa_nil))) qa_nil))) qa_nil)) (qg_name (i := 1) sc_law.nd rfl (by first | exact Or.inl rfl | exact Or.inr rfl))
      (qss_cons (qs_set (i := 2) sc_law.nd rfl (by first | exact Or.inl rfl | exact Or.inr rfl) (qe_call ft O_source rfl (hr.mono (by decide)) (by rfl) (qa_cons (qe_call ft O_cell_at rfl (hr.mono (by decide)) (by rfl) (qa_cons (qe_name (pv 0)) (qa_cons (qe_name (pv 1)) qa_nil))) qa_nil)))
      (qss_cons (qs_setLc (i := 3) (own := [("_law_j", 4)]) (zs := []) (by rfl) sc_law.nd rfl rfl (sw_true rfl rfl rfl (by decide +kernel)) (qi_range1 (by rfl) T.m_range (qa_cons (qe_op (op_addA ft) ok_add qe_int (qe_op op_fdivW ok_div (qe_callB ft O_next (hr.mono (by decide)) (by rfl) (pv 2) (qa_cons qe_int qa_nil)) qe_int)) qa_nil)) (blkOk_by (own := [("_law_j", 4)]) (N := n_law) (sc := defScope s_law) (by decide +kernel)) (fun _ _ _ _ _ _ gn1 => (qg_name (i := 4) sc_law.nd rfl (by first | exact Or.inl rfl | exact Or.inr rfl))) (fun _ _ _ _ _ _ gn1 => qts_nil) (fun _ _ _ _ _ _ gn1 => (qe_callB (Fit.blk ft gn1) O_next (hr.mono (by decide)) (by rfl) (pv 2) (qa_cons qe_int qa_nil))))
      (qss_cons (qs_setLc (i := 5) (own := [("_law_at", 6)]) (zs := []) (by rfl) sc_law.nd rfl rfl (sw_true rfl rfl rfl (by decide +kernel)) (qi_seq ft (qe_name (pv 3))) (blkOk_by (own := [("_law_at", 6)]) (N := n_law) (sc := defScope s_law) (by decide +kernel)) (fun _ _ _ _ _ _ gn1 => (qg_name (i := 6) sc_law.nd rfl (by first | exact Or.inl rfl | exact Or.inr rfl))) (fun _ _ _ _ _ _ gn1 => qts_nil) (fun _ _ _ _ _ _ gn1 => (qe_callB (Fit.blk ft gn1) O_spoilt (hr.mono (by decide)) (by rfl) (pv 2) (qa_cons (qe_name (pv 6)) qa_nil))))
      (qss_cons (qs_set (i := 7) sc_law.nd rfl (by first | exact Or.inl rfl | exact Or.inr rfl) (qe_callB ft O_values (hr.mono (by decide)) (by rfl) (pv 2) qa_nil))
      (qss_cons (qs_set (i := 8) sc_law.nd rfl (by first | exact Or.inl rfl | exact Or.inr rfl) (qe_callT (ca_list ft) ok_list (by rfl) T.m_list (by decide +kernel) (qa_cons (qe_name (pv 7)) qa_nil)))
      (qss_cons (qs_for PassesOwn.never (by rfl) (qi_zipA ft (by rfl) T.m_zip (qa_cons (qe_name (pv 3)) (qa_cons (qe_name (pv 5)) qa_nil))) (qg_tup ft rfl (qgs_cons (qg_name (i := 6) sc_law.nd rfl (by first | exact Or.inl rfl | exact Or.inr rfl)) (qgs_cons (qg_name (i := 9) sc_law.nd rfl (by first | exact Or.inl rfl | exact Or.inr rfl)) qgs_nil)))
      (qss_one (qs_setIx (pv 8) (qe_name (pv 6)) (qe_name (pv 9)))))
      (qss_cons (qs_if (qt_cmp (op_neO O_Style_eq (hr.mono (by decide))) ok_neO (qe_call ft O_all rfl (hr.mono (by decide)) (by rfl) (qa_cons (qe_name (pv 7)) qa_nil)) (qe_call ft O_all rfl (hr.mono (by decide)) (by rfl) (qa_cons (qe_name (pv 7)) qa_nil)) rfl)
      (qss_one (qs_ret qe_bl))
      qss_nil)
      (qss_cons (qs_if (PW.pt (qw_or (qt_not (qt_val (qe_call ft O_refused rfl (hr.mono (by decide)) (by rfl) (qa_cons (qe_name (pv 8)) (qa_cons qe_non qa_nil))))) (qw_or1 (qt_not (qt_val (qe_call ft O_refused rfl (hr.mono (by decide)) (by rfl) (qa_cons (qe_name (pv 8)) (qa_cons (qe_ix ft (qe_name (pv 3)) qe_int) qa_nil))))))))
      (qss_one (qs_ret qe_bl))
      qss_nil)
      (qss_one (qs_if (PW.pt (qw_or (qt_val (qe_call ft O_refused rfl (hr.mono (by decide)) (by rfl) (qa_cons (qe_name (pv 7)) (qa_cons qe_non qa_nil)))) (qw_or1 (qt_val (qe_call ft O_refused rfl (hr.mono (by decide)) (by rfl) (qa_cons (qe_name (pv 7)) (qa_cons (qe_ix ft (qe_name (pv 3)) qe_int) qa_nil)))))))
      (qss_one (qs_ret qe_bl))
      qss_nil)))))))))))
      (qss_one (qs_ret qe_bl))))
section
local macro_rules | `(tactic| walk_at "e*") => `(tactic| simp only [↓e_con, ↓e_name, ↓e_lift1, ↓e_lift2, ↓e_bool, ↓e_andT, ↓e_orT, ↓e_notT, ↓e_yes, ↓e_andV, ↓e_orV, ↓e_notV, ↓e_ifV, ↓e_argsNil, ↓e_argsCons, ↓e_lst, ↓e_tup, ↓e_callG, ↓e_call, ↓e_call0, ↓e_callK, ↓e_callB, ↓e_ixN, ↓e_peek2, ↓e_peekC, ↓e_partN, ↓e_part, ↓e_slice, ↓e_chain, ↓e_isT, ↓e_isE, ↓e_mut, ↓e_meth, ↓e_noDict, ↓e_attr, ↓e_lstRg, ↓e_new, ↓e_makeK, ↓e_next, ↓e_brk, ↓e_cont, ↓e_seq, ↓e_expr, ↓e_ret, ↓e_retN, ↓e_retName, ↓e_if, ↓e_set, ↓e_asg, ↓e_aug, ↓e_par, ↓e_raise, ↓e_for, ↓e_iterE, ↓e_iterG, ↓e_forNil, ↓e_setAt, ↓e_setIx, ↓e_comp, ↓e_lcNil, ↓e_body, ↓e_bodyB, ↓out_rt, ↓out_nx, ↓outB_rt, ↓outB_nx, ↓th_nx, ↓th_rt, ↓th_bk, ↓th_ct, ↓lo_nx, ↓lo_ct, ↓lo_bk, ↓lo_rt, ↓e_iterL, ↓e_orX, ↓e_vals, ↓e_split, ↓e_disp1, ↓e_repl, ↓e_join, ↓e_dget, ↓e_dgetT, ↓e_din, ↓e_dinN, ↓e_newDK, ↓e_newDT, ↓e_makeP, ↓e_makeQ, ↓e_sup, ↓e_isO, ↓e_isOT, ↓e_maxD, ↓e_itRev, ↓e_pop, ↓e_dput, ↓e_makeKX, ↓e_newX, ↓e_raiseE, ↓e_try, ↓e_callE, ↓e_isE, ↓e_bodyBX, ↓e_bodyE, oQ_s, fl_s, fl_n, fl_0, ob_o, pK_n, pK_c, pD_n, pD_c, lk_c, lk_n, str_inj, gEq_lit, str_beq, iQ_t, iQ_f, eQ_e, nm_f, nm_o, rn_f, rn_o, sl_s, bl_b, in_i, ls_l, l1_l, l2_l, e0_e, wR_okE, e_forCons, e_lcCons, tb_b, ex_e, nw_n, fz_f, wp_n, wp_c, fr_n, fr_c, fzE_o, fzE_f, fzE_b, fzE_n, le_n, le_c, ld_o, ld_f, ld_b, ld_n, ba_n, ba_c, bk_o, bk_b, bk_f, bk_n, co_s, pk_n, pk_a, pk_b, pk_c, en_0, en_B, tg_n, tg_t, tg_l, tg_0, tg_c, gLen_l, gLen_t, gIs_n, isN_n, isN_b, isN_i, isN_s, isN_l, isN_t, isN_o, isN_dK, isN_dT, it_l, it_t, it_s, gIn_sg, at_o, gT_l, gT_t, gL_l, gL_t, gIsi_e, gIsi1_e, ia_n, ia_t, ia_f, gAdd_ll, gAdd_tt, gApp_if, gNeg_i, gAdd_int, gSub_int, gLt_int, gLe_int, gGt_int, gGe_int, gEq_int, gAll_e, gAny_e, gSum_e, bo_n, bo_c, io_n, io_c, bools_mapE, ints_mapE, all_mid, any_mid, lim_e, dFrz, dOwn, dBor, pOwn, pBor, Sl.mut, Sl.val, Sl.d, Sl.put, isL, ib_non_int, ib_non_bool, ib_non_str, ib_non_list, ib_non_tuple, ib_non_dict, ib_bl_int, ib_bl_bool, ib_bl_str, ib_bl_list, ib_bl_tuple, ib_bl_dict, ib_int_int, ib_int_bool, ib_int_str, ib_int_list, ib_int_tuple, ib_int_dict, ib_str_int, ib_str_bool, ib_str_str, ib_str_list, ib_str_tuple, ib_str_dict, ib_lst_int, ib_lst_bool, ib_lst_str, ib_lst_list, ib_lst_tuple, ib_lst_dict, ib_tup_int, ib_tup_bool, ib_tup_str, ib_tup_list, ib_tup_tuple, ib_tup_dict, ib_dK_int, ib_dK_bool, ib_dK_str, ib_dK_list, ib_dK_tuple, ib_dK_dict, ib_dT_int, ib_dT_bool, ib_dT_str, ib_dT_list, ib_dT_tuple, ib_dT_dict, ib_scr_int, ib_scr_bool, ib_scr_str, ib_scr_list, ib_scr_tuple, ib_scr_dict, gIx_t0, gIx_t1, gIx_t2, gIx_t3, gIx_t4, gIx_t5, gIx_t6, gIx_t7, gIx_t8, gIx_t9, gIx_l0, gIx_l1, gIx_l2, gIx_l3, gIx_l4, gIx_l5, gIx_l6, gIx_l7, gIx_l8, gIx_l9, gIx_lm, gMod_if, gDiv_if, gMul_if, gPow_10_3, gPow_10_4, gPow_10_5, gPow_10_6, gPow_10_9, gPow_10_10, gPow_10_11, gPow_10_12, gPow_10_18, gMul_fi, gMul_md, ixN_0, ixN_1, ixN_2, ixN_3, ixN_4, ixN_5, ixN_6, ixN_7, ixN_8, ixN_9, tru_n, tru_i, tru_b, bne_self_eq_false, va_k, strQ_s, ls2_t, ls2_l, isO_o, isO_n, isO_b, isO_i, isO_s, isO_l, isO_t, isO_k, isOA_n, isOA_c, key_i, key_s, keys_n, keys_c, dget_K, dget_T, din_K, val_n, val_c, gMulX_i, gMulX_l, bx_f, bx_t, dk_k, gTuple_l, Option.isSome_some, Option.isSome_none, gIsiO_n, gIsiO_b, gIsiO_i, gIsiO_s, gIsiO_l, gIsiO_t, gIsiO_k, ne_s, ne_z, ne_n, ix_f, ix_o, ix_b, ix_x, tN_n, tN_r, tT_n, tT_r, List.getElem?_cons_zero, List.getElem?_cons_succ, List.getElem?_nil, List.set_cons_zero, List.set_cons_succ, List.map_cons, List.map_nil, List.length_cons, List.length_nil, List.replicate, List.cons_append, List.nil_append, Nat.reduceAdd, Nat.reduceSub, Nat.reduceEqDiff, Option.map_some, Option.map_none, Option.bind_some, if_true, if_false, decide_true, decide_false, Bool.not_true, Bool.not_false, Bool.and_true, Bool.true_and, Bool.and_false, Bool.false_and, Bool.or_true, Bool.true_or, Bool.or_false, Bool.false_or, Int.reduceLT, String.reduceEq, Int.reduceLE, Int.reduceEq, Int.reduceAdd, Int.reduceSub, Int.reduceNeg, Int.reduceMul, Int.reduceDiv, Int.reduceMod, Int.cast_ofNat_Int, Int.natCast_zero, Int.toNat_natCast, Int.reduceToNat, Bool.bne_false, Bool.bne_true, Bool.false_bne, Bool.true_bne, reduceIte, reduceCtorEq, ite_true, ite_false, Bool.false_eq_true, List.zip_cons_cons, List.zip_nil_right, List.getD_cons_zero, List.getD_cons_succ, true_and, and_true, and_self, Nat.reduceLT, Nat.reduceLeDiff, List.all_cons, List.all_nil, List.any_cons, List.any_nil, id_eq, *])
local macro_rules | `(tactic| walk_at "e") => `(tactic| simp only [↓e_con, ↓e_name, ↓e_lift1, ↓e_lift2, ↓e_bool, ↓e_andT, ↓e_orT, ↓e_notT, ↓e_yes, ↓e_andV, ↓e_orV, ↓e_notV, ↓e_ifV, ↓e_argsNil, ↓e_argsCons, ↓e_lst, ↓e_tup, ↓e_callG, ↓e_call, ↓e_call0, ↓e_callK, ↓e_callB, ↓e_ixN, ↓e_peek2, ↓e_peekC, ↓e_partN, ↓e_part, ↓e_slice, ↓e_chain, ↓e_isT, ↓e_isE, ↓e_mut, ↓e_meth, ↓e_noDict, ↓e_attr, ↓e_lstRg, ↓e_new, ↓e_makeK, ↓e_next, ↓e_brk, ↓e_cont, ↓e_seq, ↓e_expr, ↓e_ret, ↓e_retN, ↓e_retName, ↓e_if, ↓e_set, ↓e_asg, ↓e_aug, ↓e_par, ↓e_raise, ↓e_for, ↓e_iterE, ↓e_iterG, ↓e_forNil, ↓e_setAt, ↓e_setIx, ↓e_comp, ↓e_lcNil, ↓e_body, ↓e_bodyB, ↓out_rt, ↓out_nx, ↓outB_rt, ↓outB_nx, ↓th_nx, ↓th_rt, ↓th_bk, ↓th_ct, ↓lo_nx, ↓lo_ct, ↓lo_bk, ↓lo_rt, ↓e_iterL, ↓e_orX, ↓e_vals, ↓e_split, ↓e_disp1, ↓e_repl, ↓e_join, ↓e_dget, ↓e_dgetT, ↓e_din, ↓e_dinN, ↓e_newDK, ↓e_newDT, ↓e_makeP, ↓e_makeQ, ↓e_sup, ↓e_isO, ↓e_isOT, ↓e_maxD, ↓e_itRev, ↓e_pop, ↓e_dput, ↓e_makeKX, ↓e_newX, ↓e_raiseE, ↓e_try, ↓e_callE, ↓e_isE, ↓e_bodyBX, ↓e_bodyE, oQ_s, fl_s, fl_n, fl_0, ob_o, pK_n, pK_c, pD_n, pD_c, lk_c, lk_n, str_inj, gEq_lit, str_beq, iQ_t, iQ_f, eQ_e, nm_f, nm_o, rn_f, rn_o, sl_s, bl_b, in_i, ls_l, l1_l, l2_l, e0_e, wR_okE, e_forCons, e_lcCons, tb_b, ex_e, nw_n, fz_f, wp_n, wp_c, fr_n, fr_c, fzE_o, fzE_f, fzE_b, fzE_n, le_n, le_c, ld_o, ld_f, ld_b, ld_n, ba_n, ba_c, bk_o, bk_b, bk_f, bk_n, co_s, pk_n, pk_a, pk_b, pk_c, en_0, en_B, tg_n, tg_t, tg_l, tg_0, tg_c, gLen_l, gLen_t, gIs_n, isN_n, isN_b, isN_i, isN_s, isN_l, isN_t, isN_o, isN_dK, isN_dT, it_l, it_t, it_s, gIn_sg, at_o, gT_l, gT_t, gL_l, gL_t, gIsi_e, gIsi1_e, ia_n, ia_t, ia_f, gAdd_ll, gAdd_tt, gApp_if, gNeg_i, gAdd_int, gSub_int, gLt_int, gLe_int, gGt_int, gGe_int, gEq_int, gAll_e, gAny_e, gSum_e, bo_n, bo_c, io_n, io_c, bools_mapE, ints_mapE, all_mid, any_mid, lim_e, dFrz, dOwn, dBor, pOwn, pBor, Sl.mut, Sl.val, Sl.d, Sl.put, isL, ib_non_int, ib_non_bool, ib_non_str, ib_non_list, ib_non_tuple, ib_non_dict, ib_bl_int, ib_bl_bool, ib_bl_str, ib_bl_list, ib_bl_tuple, ib_bl_dict, ib_int_int, ib_int_bool, ib_int_str, ib_int_list, ib_int_tuple, ib_int_dict, ib_str_int, ib_str_bool, ib_str_str, ib_str_list, ib_str_tuple, ib_str_dict, ib_lst_int, ib_lst_bool, ib_lst_str, ib_lst_list, ib_lst_tuple, ib_lst_dict, ib_tup_int, ib_tup_bool, ib_tup_str, ib_tup_list, ib_tup_tuple, ib_tup_dict, ib_dK_int, ib_dK_bool, ib_dK_str, ib_dK_list, ib_dK_tuple, ib_dK_dict, ib_dT_int, ib_dT_bool, ib_dT_str, ib_dT_list, ib_dT_tuple, ib_dT_dict, ib_scr_int, ib_scr_bool, ib_scr_str, ib_scr_list, ib_scr_tuple, ib_scr_dict, gIx_t0, gIx_t1, gIx_t2, gIx_t3, gIx_t4, gIx_t5, gIx_t6, gIx_t7, gIx_t8, gIx_t9, gIx_l0, gIx_l1, gIx_l2, gIx_l3, gIx_l4, gIx_l5, gIx_l6, gIx_l7, gIx_l8, gIx_l9, gIx_lm, gMod_if, gDiv_if, gMul_if, gPow_10_3, gPow_10_4, gPow_10_5, gPow_10_6, gPow_10_9, gPow_10_10, gPow_10_11, gPow_10_12, gPow_10_18, gMul_fi, gMul_md, ixN_0, ixN_1, ixN_2, ixN_3, ixN_4, ixN_5, ixN_6, ixN_7, ixN_8, ixN_9, tru_n, tru_i, tru_b, bne_self_eq_false, va_k, strQ_s, ls2_t, ls2_l, isO_o, isO_n, isO_b, isO_i, isO_s, isO_l, isO_t, isO_k, isOA_n, isOA_c, key_i, key_s, keys_n, keys_c, dget_K, dget_T, din_K, val_n, val_c, gMulX_i, gMulX_l, bx_f, bx_t, dk_k, gTuple_l, Option.isSome_some, Option.isSome_none, gIsiO_n, gIsiO_b, gIsiO_i, gIsiO_s, gIsiO_l, gIsiO_t, gIsiO_k, ne_s, ne_z, ne_n, ix_f, ix_o, ix_b, ix_x, tN_n, tN_r, tT_n, tT_r, List.getElem?_cons_zero, List.getElem?_cons_succ, List.getElem?_nil, List.set_cons_zero, List.set_cons_succ, List.map_cons, List.map_nil, List.length_cons, List.length_nil, List.replicate, List.cons_append, List.nil_append, Nat.reduceAdd, Nat.reduceSub, Nat.reduceEqDiff, Option.map_some, Option.map_none, Option.bind_some, if_true, if_false, decide_true, decide_false, Bool.not_true, Bool.not_false, Bool.and_true, Bool.true_and, Bool.and_false, Bool.false_and, Bool.or_true, Bool.true_or, Bool.or_false, Bool.false_or, Int.reduceLT, String.reduceEq, Int.reduceLE, Int.reduceEq, Int.reduceAdd, Int.reduceSub, Int.reduceNeg, Int.reduceMul, Int.reduceDiv, Int.reduceMod, Int.cast_ofNat_Int, Int.natCast_zero, Int.toNat_natCast, Int.reduceToNat, Bool.bne_false, Bool.bne_true, Bool.false_bne, Bool.true_bne, reduceIte, reduceCtorEq, ite_true, ite_false, Bool.false_eq_true, List.zip_cons_cons, List.zip_nil_right, List.getD_cons_zero, List.getD_cons_succ, true_and, and_true, and_self, Nat.reduceLT, Nat.reduceLeDiff, List.all_cons, List.all_nil, List.any_cons, List.any_nil, id_eq])

/-! what the checks tell, over data of which some may be bad -/
def cnt : D → Bool
  | .int i => decide (0 ≤ i)
  | _ => false
def isInt : D → Bool
  | .int _ => true
  | _ => false
/-- a datum that a check may be asked of -/
def okO : D → Prop
  | .obj c _ _ => bt_objs c = true
  | .ty _ => False
  | .cls _ => False
  | .scr _ => False
  | .dT _ _ => False
  | .str s => s.length ≤ 16000000
  | _ => True
def letters : Str := Str.ofString "abcdefghijklmnopqrstuvwxyz"
def nameS (s : Str) : Bool := decide (1 ≤ s.length) && decide (s.length ≤ 8) && s.cps.toList.all fun c => decide (c ∈ letters.cps.toList)
def nameB : D → Bool
  | .str s => nameS s
  | _ => false
theorem iso_i {c : Str} {ks : List Str} {ds : List D} (h : bt_objs c = true) : gIsiO bt_objs [.obj c ks ds, .ty "int"] = some (.frz (.bl false)) := gIsiO_o h (by decide)
theorem iso_s {c : Str} {ks : List Str} {ds : List D} (h : bt_objs c = true) : gIsiO bt_objs [.obj c ks ds, .ty "str"] = some (.frz (.bl false)) := gIsiO_o h (by decide)
theorem iso_t {c : Str} {ks : List Str} {ds : List D} (h : bt_objs c = true) : gIsiO bt_objs [.obj c ks ds, .ty "tuple"] = some (.frz (.bl false)) := gIsiO_o h (by decide)
theorem whole_e {d : D} (h : okO d) : D_p_is_whole [d] = .ok (.frz (.bl (isInt d)), []) := eq_of_wE (by
  unfold D_p_is_whole d_p_is_whole
  cases d <;> first | (cases h; done) | (have e1 := iso_i (ks := ‹_›) (ds := ‹_›) h; walk_at "e*"; rfl) | (walk_at "e"; rfl))
theorem count_e {d : D} (h : okO d) : D_p_is_count [d] = .ok (.frz (.bl (cnt d)), []) := eq_of_wE (by
  unfold D_p_is_count d_p_is_count
  walk_at "e"
  rw [whole_e h]
  cases d <;> first | (cases h; done) | (walk_at "e"; rfl))
theorem name_e {d : D} (h : okO d) : D_p_is_name [d] = .ok (.frz (.bl (nameB d)), []) := eq_of_wE (by
  unfold D_p_is_name d_p_is_name
  cases d with
  | str s =>
    have hl : gLen [.str s] = some (.frz (.int s.length)) := if_pos h
    have hs : nameB (.str s) = (decide (1 ≤ s.length) && decide (s.length ≤ 8) && s.cps.toList.all fun c => decide (c ∈ letters.cps.toList)) := rfl
    walk_at "e"
    simp only [hl]
    walk_at "e"
    with_reducible refine iQ_dec (fun h1 => ?_) (fun h1 => ?_)
    · walk_at "e"
      rw [hs, decide_eq_false (show ¬ 1 ≤ s.length by omega)]; rfl
    walk_at "e"
    simp only [hl]
    walk_at "e"
    with_reducible refine iQ_dec (fun h2 => ?_) (fun h2 => ?_)
    · walk_at "e"
      rw [hs, decide_eq_false (show ¬ s.length ≤ 8 by omega), Bool.and_false]; rfl
    walk_at "e"
    with_reducible refine w_lcMap (fun d => match d with | .str x => .bl (decide (x.cps.getD 0 0 ∈ letters.cps.toList)) | _ => .non) ?_ (fun d hd => ?_) ?_
    · rw [signs_len]; exact h
    · obtain ⟨c, hc, rfl⟩ := signs_mem hd
      walk_at "e"
      rfl
    · rw [signs_map]
      walk_at "e"
      rw [hs, decide_eq_true (show 1 ≤ s.length by omega), decide_eq_true (show s.length ≤ 8 by omega)]; rfl
  | obj c ks ds =>
    have e1 := iso_s (ks := ks) (ds := ds) h
    walk_at "e*"
    rfl
  | _ => first | (cases h; done) | (walk_at "e"; rfl))
def oneB (ws : List Str) : D → Bool
  | .str s => ws.any fun w => w == s
  | _ => false
theorem gIn_w {ws : List Str} {s : Str} : gIn false (.str s) (.tup (ws.map D.str)) = some (.frz (.bl (ws.any fun w => w == s))) := by
  have ha : (ws.map D.str).all flatD = true := by
    rw [List.all_map, List.all_eq_true]
    exact fun _ _ => rfl
  show (if flatD (.str s) && _ then _ else _) = _
  rw [ha]
  show some (Sl.frz (.bl (false != _))) = _
  rw [List.any_map]
  show some (Sl.frz (.bl (false != ws.any fun w => w == s))) = _
  rw [Bool.false_bne]
theorem one_e {d : D} (ws : List Str) (h : okO d) : D_p_is_one_of [d, .tup (ws.map D.str)] = .ok (.frz (.bl (oneB ws d)), []) := eq_of_wE (by
  unfold D_p_is_one_of d_p_is_one_of
  cases d with
  | str s =>
    walk_at "e"
    rw [gIn_w]
    walk_at "e"
    rfl
  | obj c ks ds =>
    have e1 := iso_s (ks := ks) (ds := ds) h
    walk_at "e*"
    rfl
  | _ => first | (cases h; done) | (walk_at "e"; rfl))
def sPart : List Str := [Str.ofString "part"]
def sAs : List Str := [Str.ofString "as"]
def sSides : List Str := [Str.ofString "wide", Str.ofString "tall"]
def sStands : List Str := [Str.ofString "start", Str.ofString "end", Str.ofString "middle", Str.ofString "stretch", Str.ofString "base"]
theorem one_part {d : D} (h : okO d) : D_p_is_one_of [d, .tup [.str (Str.ofString "part")]] = .ok (.frz (.bl (oneB sPart d)), []) := one_e sPart h
theorem one_as {d : D} (h : okO d) : D_p_is_one_of [d, .tup [.str (Str.ofString "as")]] = .ok (.frz (.bl (oneB sAs d)), []) := one_e sAs h
theorem one_sides {d : D} (h : okO d) : D_p_is_one_of [d, .tup [.str (Str.ofString "wide"), .str (Str.ofString "tall")]] = .ok (.frz (.bl (oneB sSides d)), []) := one_e sSides h
theorem one_stands {d : D} (h : okO d) : D_p_is_one_of [d, .tup [.str (Str.ofString "start"), .str (Str.ofString "end"), .str (Str.ofString "middle"), .str (Str.ofString "stretch"), .str (Str.ofString "base")]] = .ok (.frz (.bl (oneB sStands d)), []) := one_e sStands h
def partB : D → Bool
  | .tup [a, b] => oneB sPart a && cnt b
  | _ => false
def tieB : D → Bool
  | .tup [a, b, c, d] => oneB sAs a && (nameB b && (oneB sSides c && isInt d))
  | _ => false
/-- what a check of a whole field may be asked of -/
def okT (d : D) : Prop := okO d ∧ ∀ xs, d = .tup xs → xs.length ≤ 16000000 ∧ ∀ x ∈ xs, okO x

theorem tup_len {xs : List D} (h : xs.length ≤ 16000000) : gLen [.tup xs] = some (.frz (.int xs.length)) := rfl
theorem part_e {d : D} (h : okT d) : D_p_is_part [d] = .ok (.frz (.bl (partB d)), []) := eq_of_wE (by
  obtain ⟨h, ht⟩ := h
  unfold D_p_is_part d_p_is_part
  cases d with
  | tup xs =>
    obtain ⟨hl, hx⟩ := ht xs rfl
    by_cases h2 : xs.length = 2
    · match xs, h2 with
      | [a, b], _ =>
        have e1 := one_part (hx a (by simp))
        have e2 := count_e (hx b (by simp))
        have hb : partB (.tup [a, b]) = (oneB sPart a && cnt b) := rfl
        clear hx hl ht h
        rw [hb]
        walk_at "e*"
        cases oneB sPart a <;> walk_at "e*"
    · have e1 : gLen [.tup xs] = some (.frz (.int xs.length)) := rfl
      have e2 : partB (.tup xs) = false := by
        match xs, h2 with
        | [], _ => rfl
        | [_], _ => rfl
        | [_, _], h2 => exact absurd rfl h2
        | _ :: _ :: _ :: _, _ => rfl
      have e3 : decide ((xs.length : Int) = 2) = false := decide_eq_false (by omega)
      clear hx hl ht h h2
      walk_at "e*"
  | obj c ks ds =>
    have e1 := iso_t (ks := ks) (ds := ds) h
    clear ht
    walk_at "e*"
    rfl
  | _ => first | (cases h; done) | (walk_at "e"; rfl))
theorem tie_e {d : D} (h : okT d) : D_p_is_tie [d] = .ok (.frz (.bl (tieB d)), []) := eq_of_wE (by
  obtain ⟨h, ht⟩ := h
  unfold D_p_is_tie d_p_is_tie
  cases d with
  | tup xs =>
    obtain ⟨hl, hx⟩ := ht xs rfl
    by_cases h2 : xs.length = 4
    · match xs, h2 with
      | [a, b, c, d], _ =>
        have e1 := one_as (hx a (by simp))
        have e2 := name_e (hx b (by simp))
        have e3 := one_sides (hx c (by simp))
        have e4 := whole_e (hx d (by simp))
        have hb : tieB (.tup [a, b, c, d]) = (oneB sAs a && (nameB b && (oneB sSides c && isInt d))) := rfl
        clear hx hl ht h
        rw [hb]
        walk_at "e*"
        cases oneB sAs a
        · walk_at "e*"
        walk_at "e*"
        cases nameB b
        · walk_at "e*"
        walk_at "e*"
        cases oneB sSides c <;> walk_at "e*"
    · have e1 : gLen [.tup xs] = some (.frz (.int xs.length)) := rfl
      have e2 : tieB (.tup xs) = false := by
        match xs, h2 with
        | [], _ => rfl
        | [_], _ => rfl
        | [_, _], _ => rfl
        | [_, _, _], _ => rfl
        | [_, _, _, _], h2 => exact absurd rfl h2
        | _ :: _ :: _ :: _ :: _ :: _, _ => rfl
      have e3 : decide ((xs.length : Int) = 4) = false := decide_eq_false (by omega)
      clear hx hl ht h h2
      walk_at "e*"
  | obj c ks ds =>
    have e1 := iso_t (ks := ks) (ds := ds) h
    clear ht
    walk_at "e*"
    rfl
  | _ => first | (cases h; done) | (walk_at "e"; rfl))
def sizeB (d : D) : Bool := isN d || (cnt d || (partB d || tieB d))
def boundB (d : D) : Bool := isN d || cnt d
def standB (d : D) : Bool := isN d || oneB sStands d
def rimsB : D → Bool
  | .tup [a, b, c, d] => cnt a && (cnt b && (cnt c && cnt d))
  | _ => false
theorem bound_e {d : D} (h : okO d) : D_p_is_bound [d] = .ok (.frz (.bl (boundB d)), []) := eq_of_wE (by
  have e1 := count_e h
  unfold D_p_is_bound d_p_is_bound
  cases d <;> first | (cases h; done) | (walk_at "e"; rfl) | (clear h; walk_at "e*"; rfl))
theorem size_e {d : D} (h : okT d) : D_p_is_size [d] = .ok (.frz (.bl (sizeB d)), []) := eq_of_wE (by
  have e1 := count_e h.1
  have e2 := part_e h
  have e3 := tie_e h
  have h := h.1
  unfold D_p_is_size d_p_is_size
  have hs : sizeB d = (isN d || (cnt d || (partB d || tieB d))) := rfl
  rw [hs]
  cases d <;> first | (cases h; done) | (clear h; walk_at "e"; rfl) | (clear h; generalize cnt _ = b1 at *; generalize partB _ = b2 at *; generalize tieB _ = b3 at *; cases b1 <;> cases b2 <;> walk_at "e*" <;> rfl))
theorem rims_e {d : D} (h : okT d) : D_p_are_rims [d] = .ok (.frz (.bl (rimsB d)), []) := eq_of_wE (by
  obtain ⟨h, ht⟩ := h
  unfold D_p_are_rims d_p_are_rims
  cases d with
  | tup xs =>
    obtain ⟨hl, hx⟩ := ht xs rfl
    by_cases h2 : xs.length = 4
    · match xs, h2 with
      | [a, b, c, d], _ =>
        have e1 := count_e (hx a (by simp))
        have e2 := count_e (hx b (by simp))
        have e3 := count_e (hx c (by simp))
        have e4 := count_e (hx d (by simp))
        clear hx hl ht h
        walk_at "e*"
        rfl
    · have e1 : gLen [.tup xs] = some (.frz (.int xs.length)) := rfl
      have e2 : rimsB (.tup xs) = false := by
        match xs, h2 with
        | [], _ => rfl
        | [_], _ => rfl
        | [_, _], _ => rfl
        | [_, _, _], _ => rfl
        | [_, _, _, _], h2 => exact absurd rfl h2
        | _ :: _ :: _ :: _ :: _ :: _, _ => rfl
      have e3 : decide ((xs.length : Int) = 4) = false := decide_eq_false (by omega)
      clear hx hl ht h h2
      walk_at "e*"
  | obj c ks ds =>
    have e1 := iso_t (ks := ks) (ds := ds) h
    clear ht
    walk_at "e*"
    rfl
  | _ => first | (cases h; done) | (walk_at "e"; rfl))

theorem er_e {ε α : Type} {Q : α → Prop} {X : Str → ε → Prop} {c : Str} {z : ε} : wE (.er c [] z) Q X kq kq = X c z := rfl
theorem er_of {ε α : Type} {r : R ε α} {c : Str} {z : ε} (h : wR r (fun _ => False) fun c' z' => c' = c ∧ z' = z) : r = .er c [] z := by
  match r, h with
  | .er _ [] _, h => obtain ⟨rfl, rfl⟩ := h; rfl
theorem unless_b {b : Bool} {x : Str} {Q : Sl × List D → Prop} {X : Str → List D → Prop} : wE (D_p_refuse_unless [.bl b, .str x]) Q X kq kq = iQ b (Q (.frz .non, [])) (X (Str.ofString "NoStyle") []) kq kq := by
  unfold D_p_refuse_unless d_p_refuse_unless
  cases b <;> walk_at "e"
local macro_rules | `(tactic| walk_at "s3") => `(tactic| simp only [↓e_con, ↓e_name, ↓e_lift1, ↓e_lift2, ↓e_bool, ↓e_andT, ↓e_orT, ↓e_notT, ↓e_yes, ↓e_andV, ↓e_orV, ↓e_notV, ↓e_ifV, ↓e_argsNil, ↓e_argsCons, ↓e_lst, ↓e_tup, ↓e_callG, ↓e_call, ↓e_call0, ↓e_callK, ↓e_callB, ↓e_ixN, ↓e_peek2, ↓e_peekC, ↓e_partN, ↓e_part, ↓e_slice, ↓e_chain, ↓e_isT, ↓e_isE, ↓e_mut, ↓e_meth, ↓e_noDict, ↓e_attr, ↓e_lstRg, ↓e_new, ↓e_makeK, ↓e_next, ↓e_brk, ↓e_cont, ↓e_seq, ↓e_expr, ↓e_ret, ↓e_retN, ↓e_retName, ↓e_if, ↓e_set, ↓e_asg, ↓e_aug, ↓e_par, ↓e_raise, ↓e_for, ↓e_iterE, ↓e_iterG, ↓e_forNil, ↓e_setAt, ↓e_setIx, ↓e_comp, ↓e_lcNil, ↓e_body, ↓e_bodyB, ↓out_rt, ↓out_nx, ↓outB_rt, ↓outB_nx, ↓th_nx, ↓th_rt, ↓th_bk, ↓th_ct, ↓lo_nx, ↓lo_ct, ↓lo_bk, ↓lo_rt, ↓e_iterL, ↓e_orX, ↓e_vals, ↓e_split, ↓e_disp1, ↓e_repl, ↓e_join, ↓e_dget, ↓e_dgetT, ↓e_din, ↓e_dinN, ↓e_newDK, ↓e_newDT, ↓e_makeP, ↓e_makeQ, ↓e_sup, ↓e_isO, ↓e_isOT, ↓e_maxD, ↓e_itRev, ↓e_pop, ↓e_dput, ↓e_makeKX, ↓e_newX, ↓e_raiseE, ↓e_try, ↓e_callE, ↓e_isE, ↓e_bodyBX, ↓e_bodyE, oQ_s, fl_s, fl_n, fl_0, ob_o, pK_n, pK_c, pD_n, pD_c, lk_c, lk_n, str_inj, gEq_lit, str_beq, iQ_t, iQ_f, eQ_e, nm_f, nm_o, rn_f, rn_o, sl_s, bl_b, in_i, ls_l, l1_l, l2_l, e0_e, wR_okE, e_forCons, e_lcCons, tb_b, ex_e, nw_n, fz_f, wp_n, wp_c, fr_n, fr_c, fzE_o, fzE_f, fzE_b, fzE_n, le_n, le_c, ld_o, ld_f, ld_b, ld_n, ba_n, ba_c, bk_o, bk_b, bk_f, bk_n, co_s, pk_n, pk_a, pk_b, pk_c, en_0, en_B, tg_n, tg_t, tg_l, tg_0, tg_c, gLen_l, gLen_t, gIs_n, isN_n, isN_b, isN_i, isN_s, isN_l, isN_t, isN_o, isN_dK, isN_dT, it_l, it_t, it_s, gIn_sg, at_o, gT_l, gT_t, gL_l, gL_t, gIsi_e, gIsi1_e, ia_n, ia_t, ia_f, gAdd_ll, gAdd_tt, gApp_if, gNeg_i, gAdd_int, gSub_int, gLt_int, gLe_int, gGt_int, gGe_int, gEq_int, gAll_e, gAny_e, gSum_e, bo_n, bo_c, io_n, io_c, bools_mapE, ints_mapE, all_mid, any_mid, lim_e, dFrz, dOwn, dBor, pOwn, pBor, Sl.mut, Sl.val, Sl.d, Sl.put, isL, ib_non_int, ib_non_bool, ib_non_str, ib_non_list, ib_non_tuple, ib_non_dict, ib_bl_int, ib_bl_bool, ib_bl_str, ib_bl_list, ib_bl_tuple, ib_bl_dict, ib_int_int, ib_int_bool, ib_int_str, ib_int_list, ib_int_tuple, ib_int_dict, ib_str_int, ib_str_bool, ib_str_str, ib_str_list, ib_str_tuple, ib_str_dict, ib_lst_int, ib_lst_bool, ib_lst_str, ib_lst_list, ib_lst_tuple, ib_lst_dict, ib_tup_int, ib_tup_bool, ib_tup_str, ib_tup_list, ib_tup_tuple, ib_tup_dict, ib_dK_int, ib_dK_bool, ib_dK_str, ib_dK_list, ib_dK_tuple, ib_dK_dict, ib_dT_int, ib_dT_bool, ib_dT_str, ib_dT_list, ib_dT_tuple, ib_dT_dict, ib_scr_int, ib_scr_bool, ib_scr_str, ib_scr_list, ib_scr_tuple, ib_scr_dict, gIx_t0, gIx_t1, gIx_t2, gIx_t3, gIx_t4, gIx_t5, gIx_t6, gIx_t7, gIx_t8, gIx_t9, gIx_l0, gIx_l1, gIx_l2, gIx_l3, gIx_l4, gIx_l5, gIx_l6, gIx_l7, gIx_l8, gIx_l9, gIx_lm, gMod_if, gDiv_if, gMul_if, gPow_10_3, gPow_10_4, gPow_10_5, gPow_10_6, gPow_10_9, gPow_10_10, gPow_10_11, gPow_10_12, gPow_10_18, gMul_fi, gMul_md, ixN_0, ixN_1, ixN_2, ixN_3, ixN_4, ixN_5, ixN_6, ixN_7, ixN_8, ixN_9, tru_n, tru_i, tru_b, bne_self_eq_false, va_k, strQ_s, ls2_t, ls2_l, isO_o, isO_n, isO_b, isO_i, isO_s, isO_l, isO_t, isO_k, isOA_n, isOA_c, key_i, key_s, keys_n, keys_c, dget_K, dget_T, din_K, val_n, val_c, gMulX_i, gMulX_l, bx_f, bx_t, dk_k, gTuple_l, Option.isSome_some, Option.isSome_none, gIsiO_n, gIsiO_b, gIsiO_i, gIsiO_s, gIsiO_l, gIsiO_t, gIsiO_k, ne_s, ne_z, ne_n, ix_f, ix_o, ix_b, ix_x, tN_n, tN_r, tT_n, tT_r, List.getElem?_cons_zero, List.getElem?_cons_succ, List.getElem?_nil, List.set_cons_zero, List.set_cons_succ, List.map_cons, List.map_nil, List.length_cons, List.length_nil, List.replicate, List.cons_append, List.nil_append, Nat.reduceAdd, Nat.reduceSub, Nat.reduceEqDiff, Option.map_some, Option.map_none, Option.bind_some, if_true, if_false, decide_true, decide_false, Bool.not_true, Bool.not_false, Bool.and_true, Bool.true_and, Bool.and_false, Bool.false_and, Bool.or_true, Bool.true_or, Bool.or_false, Bool.false_or, Int.reduceLT, String.reduceEq, Int.reduceLE, Int.reduceEq, Int.reduceAdd, Int.reduceSub, Int.reduceNeg, Int.reduceMul, Int.reduceDiv, Int.reduceMod, Int.cast_ofNat_Int, Int.natCast_zero, Int.toNat_natCast, Int.reduceToNat, Bool.bne_false, Bool.bne_true, Bool.false_bne, Bool.true_bne, reduceIte, reduceCtorEq, ite_true, ite_false, Bool.false_eq_true, List.zip_cons_cons, List.zip_nil_right, List.getD_cons_zero, List.getD_cons_succ, true_and, and_true, and_self, Nat.reduceLT, Nat.reduceLeDiff, List.all_cons, List.all_nil, List.any_cons, List.any_nil, id_eq, er_e, unless_b, at_wide, at_high, at_least_wide, at_least_high, at_most_wide, at_most_high, at_grow, at_shrink, at_rims, at_stand])
local macro_rules | `(tactic| walk_at "s3*") => `(tactic| simp only [↓e_con, ↓e_name, ↓e_lift1, ↓e_lift2, ↓e_bool, ↓e_andT, ↓e_orT, ↓e_notT, ↓e_yes, ↓e_andV, ↓e_orV, ↓e_notV, ↓e_ifV, ↓e_argsNil, ↓e_argsCons, ↓e_lst, ↓e_tup, ↓e_callG, ↓e_call, ↓e_call0, ↓e_callK, ↓e_callB, ↓e_ixN, ↓e_peek2, ↓e_peekC, ↓e_partN, ↓e_part, ↓e_slice, ↓e_chain, ↓e_isT, ↓e_isE, ↓e_mut, ↓e_meth, ↓e_noDict, ↓e_attr, ↓e_lstRg, ↓e_new, ↓e_makeK, ↓e_next, ↓e_brk, ↓e_cont, ↓e_seq, ↓e_expr, ↓e_ret, ↓e_retN, ↓e_retName, ↓e_if, ↓e_set, ↓e_asg, ↓e_aug, ↓e_par, ↓e_raise, ↓e_for, ↓e_iterE, ↓e_iterG, ↓e_forNil, ↓e_setAt, ↓e_setIx, ↓e_comp, ↓e_lcNil, ↓e_body, ↓e_bodyB, ↓out_rt, ↓out_nx, ↓outB_rt, ↓outB_nx, ↓th_nx, ↓th_rt, ↓th_bk, ↓th_ct, ↓lo_nx, ↓lo_ct, ↓lo_bk, ↓lo_rt, ↓e_iterL, ↓e_orX, ↓e_vals, ↓e_split, ↓e_disp1, ↓e_repl, ↓e_join, ↓e_dget, ↓e_dgetT, ↓e_din, ↓e_dinN, ↓e_newDK, ↓e_newDT, ↓e_makeP, ↓e_makeQ, ↓e_sup, ↓e_isO, ↓e_isOT, ↓e_maxD, ↓e_itRev, ↓e_pop, ↓e_dput, ↓e_makeKX, ↓e_newX, ↓e_raiseE, ↓e_try, ↓e_callE, ↓e_isE, ↓e_bodyBX, ↓e_bodyE, oQ_s, fl_s, fl_n, fl_0, ob_o, pK_n, pK_c, pD_n, pD_c, lk_c, lk_n, str_inj, gEq_lit, str_beq, iQ_t, iQ_f, eQ_e, nm_f, nm_o, rn_f, rn_o, sl_s, bl_b, in_i, ls_l, l1_l, l2_l, e0_e, wR_okE, e_forCons, e_lcCons, tb_b, ex_e, nw_n, fz_f, wp_n, wp_c, fr_n, fr_c, fzE_o, fzE_f, fzE_b, fzE_n, le_n, le_c, ld_o, ld_f, ld_b, ld_n, ba_n, ba_c, bk_o, bk_b, bk_f, bk_n, co_s, pk_n, pk_a, pk_b, pk_c, en_0, en_B, tg_n, tg_t, tg_l, tg_0, tg_c, gLen_l, gLen_t, gIs_n, isN_n, isN_b, isN_i, isN_s, isN_l, isN_t, isN_o, isN_dK, isN_dT, it_l, it_t, it_s, gIn_sg, at_o, gT_l, gT_t, gL_l, gL_t, gIsi_e, gIsi1_e, ia_n, ia_t, ia_f, gAdd_ll, gAdd_tt, gApp_if, gNeg_i, gAdd_int, gSub_int, gLt_int, gLe_int, gGt_int, gGe_int, gEq_int, gAll_e, gAny_e, gSum_e, bo_n, bo_c, io_n, io_c, bools_mapE, ints_mapE, all_mid, any_mid, lim_e, dFrz, dOwn, dBor, pOwn, pBor, Sl.mut, Sl.val, Sl.d, Sl.put, isL, ib_non_int, ib_non_bool, ib_non_str, ib_non_list, ib_non_tuple, ib_non_dict, ib_bl_int, ib_bl_bool, ib_bl_str, ib_bl_list, ib_bl_tuple, ib_bl_dict, ib_int_int, ib_int_bool, ib_int_str, ib_int_list, ib_int_tuple, ib_int_dict, ib_str_int, ib_str_bool, ib_str_str, ib_str_list, ib_str_tuple, ib_str_dict, ib_lst_int, ib_lst_bool, ib_lst_str, ib_lst_list, ib_lst_tuple, ib_lst_dict, ib_tup_int, ib_tup_bool, ib_tup_str, ib_tup_list, ib_tup_tuple, ib_tup_dict, ib_dK_int, ib_dK_bool, ib_dK_str, ib_dK_list, ib_dK_tuple, ib_dK_dict, ib_dT_int, ib_dT_bool, ib_dT_str, ib_dT_list, ib_dT_tuple, ib_dT_dict, ib_scr_int, ib_scr_bool, ib_scr_str, ib_scr_list, ib_scr_tuple, ib_scr_dict, gIx_t0, gIx_t1, gIx_t2, gIx_t3, gIx_t4, gIx_t5, gIx_t6, gIx_t7, gIx_t8, gIx_t9, gIx_l0, gIx_l1, gIx_l2, gIx_l3, gIx_l4, gIx_l5, gIx_l6, gIx_l7, gIx_l8, gIx_l9, gIx_lm, gMod_if, gDiv_if, gMul_if, gPow_10_3, gPow_10_4, gPow_10_5, gPow_10_6, gPow_10_9, gPow_10_10, gPow_10_11, gPow_10_12, gPow_10_18, gMul_fi, gMul_md, ixN_0, ixN_1, ixN_2, ixN_3, ixN_4, ixN_5, ixN_6, ixN_7, ixN_8, ixN_9, tru_n, tru_i, tru_b, bne_self_eq_false, va_k, strQ_s, ls2_t, ls2_l, isO_o, isO_n, isO_b, isO_i, isO_s, isO_l, isO_t, isO_k, isOA_n, isOA_c, key_i, key_s, keys_n, keys_c, dget_K, dget_T, din_K, val_n, val_c, gMulX_i, gMulX_l, bx_f, bx_t, dk_k, gTuple_l, Option.isSome_some, Option.isSome_none, gIsiO_n, gIsiO_b, gIsiO_i, gIsiO_s, gIsiO_l, gIsiO_t, gIsiO_k, ne_s, ne_z, ne_n, ix_f, ix_o, ix_b, ix_x, tN_n, tN_r, tT_n, tT_r, List.getElem?_cons_zero, List.getElem?_cons_succ, List.getElem?_nil, List.set_cons_zero, List.set_cons_succ, List.map_cons, List.map_nil, List.length_cons, List.length_nil, List.replicate, List.cons_append, List.nil_append, Nat.reduceAdd, Nat.reduceSub, Nat.reduceEqDiff, Option.map_some, Option.map_none, Option.bind_some, if_true, if_false, decide_true, decide_false, Bool.not_true, Bool.not_false, Bool.and_true, Bool.true_and, Bool.and_false, Bool.false_and, Bool.or_true, Bool.true_or, Bool.or_false, Bool.false_or, Int.reduceLT, String.reduceEq, Int.reduceLE, Int.reduceEq, Int.reduceAdd, Int.reduceSub, Int.reduceNeg, Int.reduceMul, Int.reduceDiv, Int.reduceMod, Int.cast_ofNat_Int, Int.natCast_zero, Int.toNat_natCast, Int.reduceToNat, Bool.bne_false, Bool.bne_true, Bool.false_bne, Bool.true_bne, reduceIte, reduceCtorEq, ite_true, ite_false, Bool.false_eq_true, List.zip_cons_cons, List.zip_nil_right, List.getD_cons_zero, List.getD_cons_succ, true_and, and_true, and_self, Nat.reduceLT, Nat.reduceLeDiff, List.all_cons, List.all_nil, List.any_cons, List.any_nil, id_eq, er_e, unless_b, at_wide, at_high, at_least_wide, at_least_high, at_most_wide, at_most_high, at_grow, at_shrink, at_rims, at_stand, *])
def names : List Str := ["wide", "high", "least_wide", "least_high", "most_wide", "most_high", "grow", "shrink", "rims", "stand"]
def okAll : List D → Bool
  | [w, h, a, b, c, d, g, s, r, t] => (sizeB w && sizeB h) && ((boundB a && (boundB b && (boundB c && boundB d))) && ((cnt g && cnt s) && (rimsB r && standB t)))
  | _ => false
def okData (vs : List D) : Prop := vs.length = 10 ∧ ∀ d ∈ vs, okT d
theorem tenL {α : Type} {l : List α} (h : l.length = 10) : ∃ a b c d e f g i j k, l = [a, b, c, d, e, f, g, i, j, k] := by
  match l, h with
  | [a, b, c, d, e, f, g, i, j, k], _ => exact ⟨a, b, c, d, e, f, g, i, j, k, rfl⟩
def InitS (vs : List D) (p : Sl × List D) : Prop := okAll vs = true ∧ p = (.frz .non, [.obj "Style" names vs])
theorem initX_s {vs : List D} (h : okData vs) : wR (DX_Style_init (.obj "Style" [] [] :: vs)) (InitS vs) (fun c z => okAll vs = false ∧ c = "NoStyle" ∧ z = []) := wE_in (by
  obtain ⟨hl, hd⟩ := h
  obtain ⟨w, h, a, b, c, d, g, s, r, t, rfl⟩ := tenL hl
  unfold InitS
  have hv : okAll [w, h, a, b, c, d, g, s, r, t] = ((sizeB w && sizeB h) && ((boundB a && (boundB b && (boundB c && boundB d))) && ((cnt g && cnt s) && (rimsB r && standB t)))) := rfl
  rw [hv]
  clear hv hl
  have e1 := size_e (hd w (by simp))
  have e2 := size_e (hd h (by simp))
  have e3 := bound_e (hd a (by simp)).1
  have e4 := bound_e (hd b (by simp)).1
  have e5 := bound_e (hd c (by simp)).1
  have e6 := bound_e (hd d (by simp)).1
  have e7 := count_e (hd g (by simp)).1
  have e8 := count_e (hd s (by simp)).1
  have e9 := rims_e (hd r (by simp))
  have e11 := one_stands (hd t (by simp)).1
  have e12 : standB t = (isN t || oneB sStands t) := rfl
  rw [e12]
  clear hd e12
  generalize sizeB w = b1 at *
  generalize sizeB h = b2 at *
  generalize hb3 : (boundB a && (boundB b && (boundB c && boundB d))) = b3 at *
  unfold DX_Style_init dX_Style_init
  walk_at "s3*"
  cases b1
  · walk_at "s3*"
  walk_at "s3*"
  cases b2
  · walk_at "s3*"
  walk_at "s3*"
  cases b3
  · walk_at "s3*"
  walk_at "s3*"
  cases cnt g
  · walk_at "s3*"
  walk_at "s3*"
  cases cnt s
  · walk_at "s3*"
  walk_at "s3*"
  cases rimsB r
  · walk_at "s3*"
  walk_at "s3*"
  cases isN t
  · walk_at "s3*"
    cases oneB sStands t
    · walk_at "s3*"
    walk_at "s3*"
    rfl
  walk_at "s3*"
  rfl)
theorem initX_ok {vs : List D} (h : okData vs) (hv : okAll vs = true) : DX_Style_init (.obj "Style" [] [] :: vs) = .ok (.frz .non, [.obj "Style" names vs]) := by
  have q := initX_s h
  generalize DX_Style_init (.obj "Style" [] [] :: vs) = r at q
  match r, q with
  | .ok _, q => rw [q.2]
  | .er _ [] _, q => rw [q.1] at hv; cases hv
theorem initX_no {vs : List D} (h : okData vs) (hv : okAll vs = false) : DX_Style_init (.obj "Style" [] [] :: vs) = .er "NoStyle" [] [] := by
  have q := initX_s h
  generalize DX_Style_init (.obj "Style" [] [] :: vs) = r at q
  match r, q with
  | .ok _, q => have h := q.1; rw [hv] at h; cases h
  | .er _ [] _, q => rw [q.2.1, q.2.2]
theorem init_ok {vs : List D} (h : okData vs) (hv : okAll vs = true) : D_Style_init (.obj "Style" [] [] :: vs) = .ok (.frz .non, [.obj "Style" names vs]) := eq_of_wE (by
  obtain ⟨hl, hd⟩ := h
  obtain ⟨w, h, a, b, c, d, g, s, r, t, rfl⟩ := tenL hl
  have hv : ((sizeB w && sizeB h) && ((boundB a && (boundB b && (boundB c && boundB d))) && ((cnt g && cnt s) && (rimsB r && standB t)))) = true := hv
  simp only [Bool.and_eq_true] at hv
  obtain ⟨⟨h1, h2⟩, ⟨h3, h4, h5, h6⟩, ⟨h7, h8⟩, h9, h10⟩ := hv
  have e1 := size_e (hd w (by simp))
  have e2 := size_e (hd h (by simp))
  have e3 := bound_e (hd a (by simp)).1
  have e4 := bound_e (hd b (by simp)).1
  have e5 := bound_e (hd c (by simp)).1
  have e6 := bound_e (hd d (by simp)).1
  have e7 := count_e (hd g (by simp)).1
  have e8 := count_e (hd s (by simp)).1
  have e9 := rims_e (hd r (by simp))
  have e11 := one_stands (hd t (by simp)).1
  have e12 : (isN t || oneB sStands t) = true := h10
  clear hd hl h10
  unfold D_Style_init d_Style_init
  walk_at "s3*"
  cases hn : isN t
  · rw [hn, Bool.false_or] at e12
    walk_at "s3*"
    rfl
  clear e12
  walk_at "s3*"
  rfl)

/-! draws -/
def srcD (a b c : Int) : D := .lst [.int a, .int b, .int c]
def IsSrc (d : D) : Prop := ∃ a b c : Int, d = srcD a b c
theorem mixed_s (a k : Int) : ∃ r, D_mixed [.int a, .int k] = .ok (.frz (.int r), []) := by
  have h : wR (D_mixed [.int a, .int k]) (fun p => ∃ r, p = (.frz (.int r), [])) fun _ _ => False := wE_in (by
    unfold D_mixed d_mixed
    walk_at "e"
    exact ⟨_, rfl⟩)
  obtain ⟨_, e, r, rfl⟩ := h.ok
  exact ⟨r, e⟩
theorem next_s {s : D} {m : Int} (hs : IsSrc s) (h0 : 0 < m) (h1 : m < 1267650600228229401496703205376) : wR (D_next [s, .int m]) (fun p => ∃ r s', 0 ≤ r ∧ r < m ∧ IsSrc s' ∧ p = (.frz (.int r), [s'])) fun _ _ => False := wE_in (by
  obtain ⟨a, b, c, rfl⟩ := hs
  have e1 := fun i => gMod_ok (i := i) h0
  have e2 := fun i => gDiv_ok (i := i) h0 h1
  obtain ⟨x, hx⟩ := mixed_s b (c + 1)
  unfold D_next d_next srcD
  walk_at "e"
  with_reducible refine iQ_dec (fun h => ?_) (fun h => ?_)
  · clear hx
    walk_at "e*"
    exact ⟨_, _, Int.emod_nonneg _ (by omega), Int.emod_lt_of_pos _ h0, ⟨_, _, _, rfl⟩, rfl⟩
  · walk_at "e*"
    exact ⟨_, _, Int.emod_nonneg _ (by omega), Int.emod_lt_of_pos _ h0, ⟨_, _, _, rfl⟩, rfl⟩)

/-! draws of good fields -/
def chk : Nat → D → Bool
  | 0, d => sizeB d
  | 1, d => sizeB d
  | 2, d => boundB d
  | 3, d => boundB d
  | 4, d => boundB d
  | 5, d => boundB d
  | 6, d => cnt d
  | 7, d => cnt d
  | 8, d => rimsB d
  | _, d => standB d
theorem okT_of {d : D} (h : okO d) (hn : ∀ xs, d ≠ .tup xs) : okT d := ⟨h, fun xs e => absurd e (hn xs)⟩
theorem okT_n : okT .non := okT_of trivial fun _ h => by cases h
theorem okT_b {b : Bool} : okT (.bl b) := okT_of trivial fun _ h => by cases h
theorem okT_i {i : Int} : okT (.int i) := okT_of trivial fun _ h => by cases h
theorem okT_l {l : List D} : okT (.lst l) := okT_of trivial fun _ h => by cases h
theorem okT_k {l : List Key} {m : List D} : okT (.dK l m) := okT_of trivial fun _ h => by cases h
theorem okT_s {s : Str} (h : s.length ≤ 16000000) : okT (.str s) := okT_of h fun _ h => by cases h
theorem okT_o {c : Str} {ks : List Str} {ds : List D} (h : bt_objs c = true) : okT (.obj c ks ds) := okT_of h fun _ h => by cases h
theorem okT_t {xs : List D} (h : xs.length ≤ 16000000) (hx : ∀ x ∈ xs, okO x) : okT (.tup xs) := ⟨trivial, fun ys e => by cases e; exact ⟨h, hx⟩⟩
theorem okAll_of {vs : List D} (hl : vs.length = 10) (h : ∀ i d, vs[i]? = some d → chk i d = true) : okAll vs = true := by
  obtain ⟨w, h', a, b, c, d, g, s, r, t, rfl⟩ := tenL hl
  show ((sizeB w && sizeB h') && ((boundB a && (boundB b && (boundB c && boundB d))) && ((cnt g && cnt s) && (rimsB r && standB t)))) = true
  rw [show sizeB w = true from h 0 _ rfl, show sizeB h' = true from h 1 _ rfl, show boundB a = true from h 2 _ rfl, show boundB b = true from h 3 _ rfl, show boundB c = true from h 4 _ rfl, show boundB d = true from h 5 _ rfl, show cnt g = true from h 6 _ rfl, show cnt s = true from h 7 _ rfl, show rimsB r = true from h 8 _ rfl, show standB t = true from h 9 _ rfl]
  rfl
theorem okAll_k {vs : List D} (h : okAll vs = true) : ∀ i d, vs[i]? = some d → chk i d = true := by
  unfold okAll at h
  split at h
  · rename_i w h' a b c d g s r t
    simp only [Bool.and_eq_true] at h
    obtain ⟨⟨h1, h2⟩, ⟨h3, h4, h5, h6⟩, ⟨h7, h8⟩, h9, h10⟩ := h
    intro i x hx
    match i, hx with
    | 0, hx => cases hx; exact h1
    | 1, hx => cases hx; exact h2
    | 2, hx => cases hx; exact h3
    | 3, hx => cases hx; exact h4
    | 4, hx => cases hx; exact h5
    | 5, hx => cases hx; exact h6
    | 6, hx => cases hx; exact h7
    | 7, hx => cases hx; exact h8
    | 8, hx => cases hx; exact h9
    | 9, hx => cases hx; exact h10
    | k + 10, hx => simp at hx
  · cases h
theorem okAll_no {vs : List D} {i : Nat} {d : D} (hd : vs[i]? = some d) (h : chk i d = false) : okAll vs = false := by
  cases e : okAll vs with
  | false => rfl
  | true => rw [okAll_k e i d hd] at h; cases h
theorem cnt_i {i : Int} (h : 0 ≤ i) : cnt (.int i) = true := decide_eq_true h
theorem number_s {s : D} (hs : IsSrc s) : wR (D_number [s]) (fun p => ∃ r s', 0 ≤ r ∧ IsSrc s' ∧ p = (.frz (.int r), [s'])) fun _ _ => False := wE_in (by
  unfold D_number d_number
  walk_at "e"
  with_reducible refine wE_mon (next_s hs (by decide) (by decide)) ?_
  rintro _ ⟨r, s1, h0, h1, hs1, rfl⟩
  have hr : r = 0 ∨ r = 1 ∨ r = 2 := by omega
  rcases hr with rfl | rfl | rfl <;> walk_at "e" <;> with_reducible refine wE_mon (next_s hs1 (by decide) (by decide)) ?_ <;> rintro _ ⟨r, s2, h0, h1, hs2, rfl⟩ <;> walk_at "e" <;> exact ⟨_, _, h0, hs2, rfl⟩)
theorem sg_cat (a : Str) (c : Nat) : (a ++ (⟨#[c]⟩ : Str)).length = a.length + 1 ∧ (a ++ (⟨#[c]⟩ : Str)).cps.toList = a.cps.toList ++ [c] := by
  have e : (a ++ (⟨#[c]⟩ : Str)).cps = a.cps ++ #[c] := rfl
  refine ⟨?_, by rw [e]; simp⟩
  show (a ++ (⟨#[c]⟩ : Str)).cps.size = a.cps.size + 1
  rw [e]
  simp
def lets (s : Str) : Prop := ∀ c ∈ s.cps.toList, c ∈ letters.cps.toList
theorem nameS_of {s : Str} (h : 1 ≤ s.length) (h8 : s.length ≤ 8) (hl : lets s) : nameS s = true := by
  unfold nameS
  rw [decide_eq_true h, decide_eq_true h8]
  simp only [Bool.and_true, Bool.true_and, List.all_eq_true, decide_eq_true_eq]
  exact hl
theorem name_s {s : D} {n : Int} (hs : IsSrc s) (h0 : 0 ≤ n) (h1 : n ≤ 16) : wR (D_name [s, .int n]) (fun p => ∃ nm s', (nm.length : Int) = n ∧ lets nm ∧ IsSrc s' ∧ p = (.frz (.str nm), [s'])) fun _ _ => False := wE_in (by
  unfold D_name d_name
  have er : gR1 [.int n] = some (rangeL 0 n.toNat) := gR1_ok (by omega) (by omega)
  walk_at "e"
  rw [er]
  walk_at "e"
  with_reducible refine w_forInv (fun i e => ∃ (z : Str) (s2 : D) (o : Option Sl), z.length = i ∧ lets z ∧ IsSrc s2 ∧ e = [some (.bor s2), some (.frz (.int n)), some (.frz (.str z)), o]) ?_ ?_ ?_
  · exact ⟨_, _, _, rfl, fun c hc => (by cases hc), hs, rfl⟩
  · rintro i d e hd ⟨z, s2, o, hl, hz, hs2, rfl⟩
    obtain ⟨hi, rfl⟩ := rangeL_get hd
    walk_at "e"
    with_reducible refine wE_mon (next_s hs2 (by decide) (by decide)) ?_
    rintro _ ⟨q, s3, g0, g1, hs3, rfl⟩
    obtain ⟨c, hc, hx⟩ := gIx_str (z := Str.ofString "abcdefghijklmnopqrstuvwxyz") (r := q) (by decide) g0 (by rw [show ((Str.ofString "abcdefghijklmnopqrstuvwxyz").length : Int) = 26 by decide]; exact g1)
    have ha : gAdd (.str z) (.str ⟨#[c]⟩) = some (.frz (.str (z ++ ⟨#[c]⟩))) := gAdd_str (by rw [hl]; show i + 1 ≤ _; omega)
    walk_at "e"
    simp only [hx]
    walk_at "e"
    simp only [ha]
    walk_at "e"
    refine ⟨_, _, _, ?_, fun x hx => ?_, hs3, rfl⟩
    · rw [(sg_cat z c).1, hl]
    · rw [(sg_cat z c).2] at hx
      rcases List.mem_append.mp hx with hx | hx
      · exact hz x hx
      · rw [List.mem_singleton.mp hx]; exact hc
  · rintro e ⟨z, s2, o, hl, hz, hs2, rfl⟩
    rw [rangeL_len] at hl
    walk_at "e"
    exact ⟨z, s2, by omega, hz, hs2, rfl⟩)
theorem num_sz {i : Int} (h : 0 ≤ i) : sizeB (.int i) = true := by
  show (false || (cnt (.int i) || _)) = true
  rw [cnt_i h]; rfl
theorem part_sz {i : Int} (h : 0 ≤ i) : sizeB (.tup [.str (Str.ofString "part"), .int i]) = true := by
  show (false || (false || ((oneB sPart (.str (Str.ofString "part")) && cnt (.int i)) || false))) = true
  rw [cnt_i h]; decide
theorem as_sz {n x : Str} {i : Int} (h : nameS n = true) (hx : x = Str.ofString "wide" ∨ x = Str.ofString "tall") : sizeB (.tup [.str (Str.ofString "as"), .str n, .str x, .int i]) = true := by
  show (false || (false || (false || (oneB sAs (.str (Str.ofString "as")) && (nameS n && (oneB sSides (.str x) && true)))))) = true
  rw [h]
  rcases hx with rfl | rfl <;> decide
theorem size_s {s : D} (hs : IsSrc s) : wR (D_size [s]) (fun p => ∃ d s', okT d ∧ sizeB d = true ∧ IsSrc s' ∧ p = (.frz d, [s'])) fun _ _ => False := wE_in (by
  unfold D_size d_size
  walk_at "e"
  with_reducible refine wE_mon (next_s hs (by decide) (by decide)) ?_
  rintro _ ⟨r, s1, h0, h1, hs1, rfl⟩
  have hr : r = 0 ∨ r = 1 ∨ r = 2 ∨ r = 3 := by omega
  rcases hr with rfl | rfl | rfl | rfl
  · walk_at "e"
    exact ⟨_, _, okT_n, rfl, hs1, rfl⟩
  · walk_at "e"
    with_reducible refine wE_mon (number_s hs1) ?_
    rintro _ ⟨r, s2, h0, hs2, rfl⟩
    walk_at "e"
    exact ⟨_, _, okT_i, num_sz h0, hs2, rfl⟩
  · walk_at "e"
    with_reducible refine wE_mon (number_s hs1) ?_
    rintro _ ⟨r, s2, h0, hs2, rfl⟩
    walk_at "e"
    refine ⟨_, _, okT_t (by simp) ?_, part_sz h0, hs2, rfl⟩
    simp only [List.mem_cons, List.not_mem_nil, or_false]
    rintro x (rfl | rfl)
    · show _ ≤ _; decide
    · trivial
  · walk_at "e"
    with_reducible refine wE_mon (next_s hs1 (by decide) (by decide)) ?_
    rintro _ ⟨q, s2, h0, h1, hs2, rfl⟩
    walk_at "e"
    with_reducible refine wE_mon (name_s hs2 (by omega) (by omega)) ?_
    rintro _ ⟨nm, s3, hl, hnm, hs3, rfl⟩
    have hn : nameS nm = true := nameS_of (by omega) (by omega) hnm
    walk_at "e"
    with_reducible refine wE_mon (next_s hs3 (by decide) (by decide)) ?_
    rintro _ ⟨r, s4, g0, g1, hs4, rfl⟩
    have hr : ∃ x, gIx (.lst [.str (Str.ofString "wide"), .str (Str.ofString "tall")]) (.int r) = some (.frz (.str x)) ∧ (x = Str.ofString "wide" ∨ x = Str.ofString "tall") ∧ x.length ≤ 16000000 := by
      have hr : r = 0 ∨ r = 1 := by omega
      rcases hr with rfl | rfl
      · exact ⟨_, rfl, .inl rfl, by decide⟩
      · exact ⟨_, rfl, .inr rfl, by decide⟩
    obtain ⟨x, hx, hx2, hxl⟩ := hr
    walk_at "e"
    simp only [hx]
    walk_at "e"
    with_reducible refine wE_mon (number_s hs4) ?_
    rintro _ ⟨k, s5, k0, hs5, rfl⟩
    walk_at "e"
    refine ⟨_, _, okT_t (by simp) ?_, as_sz hn hx2, hs5, rfl⟩
    simp only [List.mem_cons, List.not_mem_nil, or_false]
    rintro x (rfl | rfl | rfl | rfl)
    · show _ ≤ _; decide
    · show _ ≤ _; omega
    · exact hxl
    · trivial)
theorem stand_s {r : Int} (h0 : 0 ≤ r) (h1 : r < 6) : ∃ d, gIx (.lst [.non, .str (Str.ofString "start"), .str (Str.ofString "end"), .str (Str.ofString "middle"), .str (Str.ofString "stretch"), .str (Str.ofString "base")]) (.int r) = some (.frz d) ∧ okT d ∧ standB d = true := by
  have hr : r = 0 ∨ r = 1 ∨ r = 2 ∨ r = 3 ∨ r = 4 ∨ r = 5 := by omega
  rcases hr with rfl | rfl | rfl | rfl | rfl | rfl
  · exact ⟨_, rfl, okT_n, rfl⟩
  · exact ⟨_, rfl, okT_s (by decide), by decide⟩
  · exact ⟨_, rfl, okT_s (by decide), by decide⟩
  · exact ⟨_, rfl, okT_s (by decide), by decide⟩
  · exact ⟨_, rfl, okT_s (by decide), by decide⟩
  · exact ⟨_, rfl, okT_s (by decide), by decide⟩
theorem gR4 : gR1 [.int 4] = some [.int 0, .int 1, .int 2, .int 3] := rfl
local macro_rules | `(tactic| walk_at "s7") => `(tactic| simp only [↓e_con, ↓e_name, ↓e_lift1, ↓e_lift2, ↓e_bool, ↓e_andT, ↓e_orT, ↓e_notT, ↓e_yes, ↓e_andV, ↓e_orV, ↓e_notV, ↓e_ifV, ↓e_argsNil, ↓e_argsCons, ↓e_lst, ↓e_tup, ↓e_callG, ↓e_call, ↓e_call0, ↓e_callK, ↓e_callB, ↓e_ixN, ↓e_peek2, ↓e_peekC, ↓e_partN, ↓e_part, ↓e_slice, ↓e_chain, ↓e_isT, ↓e_isE, ↓e_mut, ↓e_meth, ↓e_noDict, ↓e_attr, ↓e_lstRg, ↓e_new, ↓e_makeK, ↓e_next, ↓e_brk, ↓e_cont, ↓e_seq, ↓e_expr, ↓e_ret, ↓e_retN, ↓e_retName, ↓e_if, ↓e_set, ↓e_asg, ↓e_aug, ↓e_par, ↓e_raise, ↓e_for, ↓e_iterE, ↓e_iterG, ↓e_forNil, ↓e_setAt, ↓e_setIx, ↓e_comp, ↓e_lcNil, ↓e_body, ↓e_bodyB, ↓out_rt, ↓out_nx, ↓outB_rt, ↓outB_nx, ↓th_nx, ↓th_rt, ↓th_bk, ↓th_ct, ↓lo_nx, ↓lo_ct, ↓lo_bk, ↓lo_rt, ↓e_iterL, ↓e_orX, ↓e_vals, ↓e_split, ↓e_disp1, ↓e_repl, ↓e_join, ↓e_dget, ↓e_dgetT, ↓e_din, ↓e_dinN, ↓e_newDK, ↓e_newDT, ↓e_makeP, ↓e_makeQ, ↓e_sup, ↓e_isO, ↓e_isOT, ↓e_maxD, ↓e_itRev, ↓e_pop, ↓e_dput, ↓e_makeKX, ↓e_newX, ↓e_raiseE, ↓e_try, ↓e_callE, ↓e_isE, ↓e_bodyBX, ↓e_bodyE, oQ_s, fl_s, fl_n, fl_0, ob_o, pK_n, pK_c, pD_n, pD_c, lk_c, lk_n, str_inj, gEq_lit, str_beq, iQ_t, iQ_f, eQ_e, nm_f, nm_o, rn_f, rn_o, sl_s, bl_b, in_i, ls_l, l1_l, l2_l, e0_e, wR_okE, e_forCons, e_lcCons, tb_b, ex_e, nw_n, fz_f, wp_n, wp_c, fr_n, fr_c, fzE_o, fzE_f, fzE_b, fzE_n, le_n, le_c, ld_o, ld_f, ld_b, ld_n, ba_n, ba_c, bk_o, bk_b, bk_f, bk_n, co_s, pk_n, pk_a, pk_b, pk_c, en_0, en_B, tg_n, tg_t, tg_l, tg_0, tg_c, gLen_l, gLen_t, gIs_n, isN_n, isN_b, isN_i, isN_s, isN_l, isN_t, isN_o, isN_dK, isN_dT, it_l, it_t, it_s, gIn_sg, at_o, gT_l, gT_t, gL_l, gL_t, gIsi_e, gIsi1_e, ia_n, ia_t, ia_f, gAdd_ll, gAdd_tt, gApp_if, gNeg_i, gAdd_int, gSub_int, gLt_int, gLe_int, gGt_int, gGe_int, gEq_int, gAll_e, gAny_e, gSum_e, bo_n, bo_c, io_n, io_c, bools_mapE, ints_mapE, all_mid, any_mid, lim_e, dFrz, dOwn, dBor, pOwn, pBor, Sl.mut, Sl.val, Sl.d, Sl.put, isL, ib_non_int, ib_non_bool, ib_non_str, ib_non_list, ib_non_tuple, ib_non_dict, ib_bl_int, ib_bl_bool, ib_bl_str, ib_bl_list, ib_bl_tuple, ib_bl_dict, ib_int_int, ib_int_bool, ib_int_str, ib_int_list, ib_int_tuple, ib_int_dict, ib_str_int, ib_str_bool, ib_str_str, ib_str_list, ib_str_tuple, ib_str_dict, ib_lst_int, ib_lst_bool, ib_lst_str, ib_lst_list, ib_lst_tuple, ib_lst_dict, ib_tup_int, ib_tup_bool, ib_tup_str, ib_tup_list, ib_tup_tuple, ib_tup_dict, ib_dK_int, ib_dK_bool, ib_dK_str, ib_dK_list, ib_dK_tuple, ib_dK_dict, ib_dT_int, ib_dT_bool, ib_dT_str, ib_dT_list, ib_dT_tuple, ib_dT_dict, ib_scr_int, ib_scr_bool, ib_scr_str, ib_scr_list, ib_scr_tuple, ib_scr_dict, gIx_t0, gIx_t1, gIx_t2, gIx_t3, gIx_t4, gIx_t5, gIx_t6, gIx_t7, gIx_t8, gIx_t9, gIx_l0, gIx_l1, gIx_l2, gIx_l3, gIx_l4, gIx_l5, gIx_l6, gIx_l7, gIx_l8, gIx_l9, gIx_lm, gMod_if, gDiv_if, gMul_if, gPow_10_3, gPow_10_4, gPow_10_5, gPow_10_6, gPow_10_9, gPow_10_10, gPow_10_11, gPow_10_12, gPow_10_18, gMul_fi, gMul_md, ixN_0, ixN_1, ixN_2, ixN_3, ixN_4, ixN_5, ixN_6, ixN_7, ixN_8, ixN_9, tru_n, tru_i, tru_b, bne_self_eq_false, va_k, strQ_s, ls2_t, ls2_l, isO_o, isO_n, isO_b, isO_i, isO_s, isO_l, isO_t, isO_k, isOA_n, isOA_c, key_i, key_s, keys_n, keys_c, dget_K, dget_T, din_K, val_n, val_c, gMulX_i, gMulX_l, bx_f, bx_t, dk_k, gTuple_l, Option.isSome_some, Option.isSome_none, gIsiO_n, gIsiO_b, gIsiO_i, gIsiO_s, gIsiO_l, gIsiO_t, gIsiO_k, ne_s, ne_z, ne_n, ix_f, ix_o, ix_b, ix_x, tN_n, tN_r, tT_n, tT_r, List.getElem?_cons_zero, List.getElem?_cons_succ, List.getElem?_nil, List.set_cons_zero, List.set_cons_succ, List.map_cons, List.map_nil, List.length_cons, List.length_nil, List.replicate, List.cons_append, List.nil_append, Nat.reduceAdd, Nat.reduceSub, Nat.reduceEqDiff, Option.map_some, Option.map_none, Option.bind_some, if_true, if_false, decide_true, decide_false, Bool.not_true, Bool.not_false, Bool.and_true, Bool.true_and, Bool.and_false, Bool.false_and, Bool.or_true, Bool.true_or, Bool.or_false, Bool.false_or, Int.reduceLT, String.reduceEq, Int.reduceLE, Int.reduceEq, Int.reduceAdd, Int.reduceSub, Int.reduceNeg, Int.reduceMul, Int.reduceDiv, Int.reduceMod, Int.cast_ofNat_Int, Int.natCast_zero, Int.toNat_natCast, Int.reduceToNat, Bool.bne_false, Bool.bne_true, Bool.false_bne, Bool.true_bne, reduceIte, reduceCtorEq, ite_true, ite_false, Bool.false_eq_true, List.zip_cons_cons, List.zip_nil_right, List.getD_cons_zero, List.getD_cons_succ, true_and, and_true, and_self, Nat.reduceLT, Nat.reduceLeDiff, List.all_cons, List.all_nil, List.any_cons, List.any_nil, id_eq, gR4])
local macro_rules | `(tactic| walk_at "s7*") => `(tactic| simp only [↓e_con, ↓e_name, ↓e_lift1, ↓e_lift2, ↓e_bool, ↓e_andT, ↓e_orT, ↓e_notT, ↓e_yes, ↓e_andV, ↓e_orV, ↓e_notV, ↓e_ifV, ↓e_argsNil, ↓e_argsCons, ↓e_lst, ↓e_tup, ↓e_callG, ↓e_call, ↓e_call0, ↓e_callK, ↓e_callB, ↓e_ixN, ↓e_peek2, ↓e_peekC, ↓e_partN, ↓e_part, ↓e_slice, ↓e_chain, ↓e_isT, ↓e_isE, ↓e_mut, ↓e_meth, ↓e_noDict, ↓e_attr, ↓e_lstRg, ↓e_new, ↓e_makeK, ↓e_next, ↓e_brk, ↓e_cont, ↓e_seq, ↓e_expr, ↓e_ret, ↓e_retN, ↓e_retName, ↓e_if, ↓e_set, ↓e_asg, ↓e_aug, ↓e_par, ↓e_raise, ↓e_for, ↓e_iterE, ↓e_iterG, ↓e_forNil, ↓e_setAt, ↓e_setIx, ↓e_comp, ↓e_lcNil, ↓e_body, ↓e_bodyB, ↓out_rt, ↓out_nx, ↓outB_rt, ↓outB_nx, ↓th_nx, ↓th_rt, ↓th_bk, ↓th_ct, ↓lo_nx, ↓lo_ct, ↓lo_bk, ↓lo_rt, ↓e_iterL, ↓e_orX, ↓e_vals, ↓e_split, ↓e_disp1, ↓e_repl, ↓e_join, ↓e_dget, ↓e_dgetT, ↓e_din, ↓e_dinN, ↓e_newDK, ↓e_newDT, ↓e_makeP, ↓e_makeQ, ↓e_sup, ↓e_isO, ↓e_isOT, ↓e_maxD, ↓e_itRev, ↓e_pop, ↓e_dput, ↓e_makeKX, ↓e_newX, ↓e_raiseE, ↓e_try, ↓e_callE, ↓e_isE, ↓e_bodyBX, ↓e_bodyE, oQ_s, fl_s, fl_n, fl_0, ob_o, pK_n, pK_c, pD_n, pD_c, lk_c, lk_n, str_inj, gEq_lit, str_beq, iQ_t, iQ_f, eQ_e, nm_f, nm_o, rn_f, rn_o, sl_s, bl_b, in_i, ls_l, l1_l, l2_l, e0_e, wR_okE, e_forCons, e_lcCons, tb_b, ex_e, nw_n, fz_f, wp_n, wp_c, fr_n, fr_c, fzE_o, fzE_f, fzE_b, fzE_n, le_n, le_c, ld_o, ld_f, ld_b, ld_n, ba_n, ba_c, bk_o, bk_b, bk_f, bk_n, co_s, pk_n, pk_a, pk_b, pk_c, en_0, en_B, tg_n, tg_t, tg_l, tg_0, tg_c, gLen_l, gLen_t, gIs_n, isN_n, isN_b, isN_i, isN_s, isN_l, isN_t, isN_o, isN_dK, isN_dT, it_l, it_t, it_s, gIn_sg, at_o, gT_l, gT_t, gL_l, gL_t, gIsi_e, gIsi1_e, ia_n, ia_t, ia_f, gAdd_ll, gAdd_tt, gApp_if, gNeg_i, gAdd_int, gSub_int, gLt_int, gLe_int, gGt_int, gGe_int, gEq_int, gAll_e, gAny_e, gSum_e, bo_n, bo_c, io_n, io_c, bools_mapE, ints_mapE, all_mid, any_mid, lim_e, dFrz, dOwn, dBor, pOwn, pBor, Sl.mut, Sl.val, Sl.d, Sl.put, isL, ib_non_int, ib_non_bool, ib_non_str, ib_non_list, ib_non_tuple, ib_non_dict, ib_bl_int, ib_bl_bool, ib_bl_str, ib_bl_list, ib_bl_tuple, ib_bl_dict, ib_int_int, ib_int_bool, ib_int_str, ib_int_list, ib_int_tuple, ib_int_dict, ib_str_int, ib_str_bool, ib_str_str, ib_str_list, ib_str_tuple, ib_str_dict, ib_lst_int, ib_lst_bool, ib_lst_str, ib_lst_list, ib_lst_tuple, ib_lst_dict, ib_tup_int, ib_tup_bool, ib_tup_str, ib_tup_list, ib_tup_tuple, ib_tup_dict, ib_dK_int, ib_dK_bool, ib_dK_str, ib_dK_list, ib_dK_tuple, ib_dK_dict, ib_dT_int, ib_dT_bool, ib_dT_str, ib_dT_list, ib_dT_tuple, ib_dT_dict, ib_scr_int, ib_scr_bool, ib_scr_str, ib_scr_list, ib_scr_tuple, ib_scr_dict, gIx_t0, gIx_t1, gIx_t2, gIx_t3, gIx_t4, gIx_t5, gIx_t6, gIx_t7, gIx_t8, gIx_t9, gIx_l0, gIx_l1, gIx_l2, gIx_l3, gIx_l4, gIx_l5, gIx_l6, gIx_l7, gIx_l8, gIx_l9, gIx_lm, gMod_if, gDiv_if, gMul_if, gPow_10_3, gPow_10_4, gPow_10_5, gPow_10_6, gPow_10_9, gPow_10_10, gPow_10_11, gPow_10_12, gPow_10_18, gMul_fi, gMul_md, ixN_0, ixN_1, ixN_2, ixN_3, ixN_4, ixN_5, ixN_6, ixN_7, ixN_8, ixN_9, tru_n, tru_i, tru_b, bne_self_eq_false, va_k, strQ_s, ls2_t, ls2_l, isO_o, isO_n, isO_b, isO_i, isO_s, isO_l, isO_t, isO_k, isOA_n, isOA_c, key_i, key_s, keys_n, keys_c, dget_K, dget_T, din_K, val_n, val_c, gMulX_i, gMulX_l, bx_f, bx_t, dk_k, gTuple_l, Option.isSome_some, Option.isSome_none, gIsiO_n, gIsiO_b, gIsiO_i, gIsiO_s, gIsiO_l, gIsiO_t, gIsiO_k, ne_s, ne_z, ne_n, ix_f, ix_o, ix_b, ix_x, tN_n, tN_r, tT_n, tT_r, List.getElem?_cons_zero, List.getElem?_cons_succ, List.getElem?_nil, List.set_cons_zero, List.set_cons_succ, List.map_cons, List.map_nil, List.length_cons, List.length_nil, List.replicate, List.cons_append, List.nil_append, Nat.reduceAdd, Nat.reduceSub, Nat.reduceEqDiff, Option.map_some, Option.map_none, Option.bind_some, if_true, if_false, decide_true, decide_false, Bool.not_true, Bool.not_false, Bool.and_true, Bool.true_and, Bool.and_false, Bool.false_and, Bool.or_true, Bool.true_or, Bool.or_false, Bool.false_or, Int.reduceLT, String.reduceEq, Int.reduceLE, Int.reduceEq, Int.reduceAdd, Int.reduceSub, Int.reduceNeg, Int.reduceMul, Int.reduceDiv, Int.reduceMod, Int.cast_ofNat_Int, Int.natCast_zero, Int.toNat_natCast, Int.reduceToNat, Bool.bne_false, Bool.bne_true, Bool.false_bne, Bool.true_bne, reduceIte, reduceCtorEq, ite_true, ite_false, Bool.false_eq_true, List.zip_cons_cons, List.zip_nil_right, List.getD_cons_zero, List.getD_cons_succ, true_and, and_true, and_self, Nat.reduceLT, Nat.reduceLeDiff, List.all_cons, List.all_nil, List.any_cons, List.any_nil, id_eq, gR4, *])

theorem values_s {s : D} (hs : IsSrc s) : wR (D_values [s]) (fun p => ∃ vs s', okData vs ∧ okAll vs = true ∧ IsSrc s' ∧ p = (.own (.lst vs), [s'])) fun _ _ => False := wE_in (by
  unfold D_values d_values
  walk_at "e"
  with_reducible refine wE_mon (size_s hs) ?_
  rintro _ ⟨w, s1, kw, hw, hs1, rfl⟩
  walk_at "e"
  with_reducible refine wE_mon (size_s hs1) ?_
  rintro _ ⟨h, s2, kh, hh, hs2, rfl⟩
  walk_at "s7"
  with_reducible refine wE_mon (number_s hs2) ?_
  rintro _ ⟨a, s3, ha, hs3, rfl⟩
  walk_at "s7"
  with_reducible refine wE_mon (number_s hs3) ?_
  rintro _ ⟨b, s4, hb, hs4, rfl⟩
  walk_at "s7"
  with_reducible refine wE_mon (number_s hs4) ?_
  rintro _ ⟨c, s5, hc, hs5, rfl⟩
  walk_at "s7"
  with_reducible refine wE_mon (number_s hs5) ?_
  rintro _ ⟨d, s6, hd, hs6, rfl⟩
  walk_at "s7"
  with_reducible refine wE_mon (number_s hs6) ?_
  rintro _ ⟨g, s7, hg, hs7, rfl⟩
  walk_at "s7"
  with_reducible refine wE_mon (number_s hs7) ?_
  rintro _ ⟨k, s8, hk, hs8, rfl⟩
  walk_at "s7"
  with_reducible refine wE_mon (number_s hs8) ?_
  rintro _ ⟨r0, s9, hr0, hs9, rfl⟩
  walk_at "s7"
  with_reducible refine wE_mon (number_s hs9) ?_
  rintro _ ⟨r1, t1, hr1, ht1, rfl⟩
  walk_at "s7"
  with_reducible refine wE_mon (number_s ht1) ?_
  rintro _ ⟨r2, t2, hr2, ht2, rfl⟩
  walk_at "s7"
  with_reducible refine wE_mon (number_s ht2) ?_
  rintro _ ⟨r3, t3, hr3, ht3, rfl⟩
  walk_at "s7"
  with_reducible refine wE_mon (next_s ht3 (by decide) (by decide)) ?_
  rintro _ ⟨r, t4, h0, h1, ht4, rfl⟩
  obtain ⟨st, hst, hst2, hst3⟩ := stand_s h0 h1
  walk_at "s7"
  simp only [hst]
  walk_at "s7"
  have hrt : okT (.tup [.int r0, .int r1, .int r2, .int r3]) := okT_t (by simp) (by
    simp only [List.mem_cons, List.not_mem_nil, or_false]
    rintro x (rfl | rfl | rfl | rfl) <;> trivial)
  refine ⟨_, _, ⟨rfl, ?_⟩, okAll_of rfl fun i x hx => ?_, ht4, rfl⟩
  · simp only [List.mem_cons, List.not_mem_nil, or_false]
    rintro x (rfl | rfl | rfl | rfl | rfl | rfl | rfl | rfl | rfl | rfl)
    · exact kw
    · exact kh
    · exact okT_i
    · exact okT_i
    · exact okT_i
    · exact okT_i
    · exact okT_i
    · exact okT_i
    · exact hrt
    · exact hst2
  · have bd : ∀ i : Int, 0 ≤ i → boundB (.int i) = true := fun i h => by
      show (false || cnt (.int i)) = true
      rw [cnt_i h]; rfl
    match i, hx with
    | 0, hx => cases hx; exact hw
    | 1, hx => cases hx; exact hh
    | 2, hx => cases hx; exact bd _ ha
    | 3, hx => cases hx; exact bd _ hb
    | 4, hx => cases hx; exact bd _ hc
    | 5, hx => cases hx; exact bd _ hd
    | 6, hx => cases hx; exact cnt_i hg
    | 7, hx => cases hx; exact cnt_i hk
    | 8, hx =>
      cases hx
      show (cnt _ && (cnt _ && (cnt _ && cnt _))) = true
      rw [cnt_i hr0, cnt_i hr1, cnt_i hr2, cnt_i hr3]
      rfl
    | 9, hx => cases hx; exact hst3
    | k + 10, hx => simp at hx)

/-! draws of what is bad -/
theorem pick {ds : List D} {r : Int} (h0 : 0 ≤ r) (h1 : r < ds.length) : ∃ d ∈ ds, gIx (.lst ds) (.int r) = some (.frz d) := by
  have hn : r.toNat < ds.length := by omega
  refine ⟨ds[r.toNat], List.getElem_mem hn, ?_⟩
  show (atI _ _).map _ = _
  unfold atI ixN
  rw [if_pos h0, if_pos h1]
  simp only [Option.bind_some, List.getElem?_eq_getElem hn]
  rfl
theorem cnt_no {i : Int} (h : i < 0) : cnt (.int i) = false := decide_eq_false (by omega)
theorem size_no {i : Int} (h : i < 0) : sizeB (.int i) = false := by
  show (false || (cnt (.int i) || false)) = false
  rw [cnt_no h]; rfl
theorem df_data : okData df_Style := ⟨rfl, by
  simp only [df_Style, List.mem_cons, List.not_mem_nil, or_false]
  rintro x (rfl | rfl | rfl | rfl | rfl | rfl | rfl | rfl | rfl | rfl)
  · exact okT_n
  · exact okT_n
  · exact okT_n
  · exact okT_n
  · exact okT_n
  · exact okT_n
  · exact okT_i
  · exact okT_i
  · refine okT_t (by simp) ?_
    simp only [List.mem_cons, List.not_mem_nil, or_false]
    rintro x (rfl | rfl | rfl | rfl) <;> trivial
  · exact okT_n⟩
theorem df_all : okAll df_Style = true := by decide
theorem df_init : D_Style_init [.obj "Style" [] [], .non, .non, .non, .non, .non, .non, .int 0, .int 1, .tup [.int 0, .int 0, .int 0, .int 0], .non] = .ok (.frz .non, [.obj "Style" names df_Style]) := init_ok df_data df_all
theorem bt_S : bt_objs "Style" = true := by decide
local macro_rules | `(tactic| walk_at "t1") => `(tactic| simp only [↓e_con, ↓e_name, ↓e_lift1, ↓e_lift2, ↓e_bool, ↓e_andT, ↓e_orT, ↓e_notT, ↓e_yes, ↓e_andV, ↓e_orV, ↓e_notV, ↓e_ifV, ↓e_argsNil, ↓e_argsCons, ↓e_lst, ↓e_tup, ↓e_callG, ↓e_call, ↓e_call0, ↓e_callK, ↓e_callB, ↓e_ixN, ↓e_peek2, ↓e_peekC, ↓e_partN, ↓e_part, ↓e_slice, ↓e_chain, ↓e_isT, ↓e_isE, ↓e_mut, ↓e_meth, ↓e_noDict, ↓e_attr, ↓e_lstRg, ↓e_new, ↓e_makeK, ↓e_next, ↓e_brk, ↓e_cont, ↓e_seq, ↓e_expr, ↓e_ret, ↓e_retN, ↓e_retName, ↓e_if, ↓e_set, ↓e_asg, ↓e_aug, ↓e_par, ↓e_raise, ↓e_for, ↓e_iterE, ↓e_iterG, ↓e_forNil, ↓e_setAt, ↓e_setIx, ↓e_comp, ↓e_lcNil, ↓e_body, ↓e_bodyB, ↓out_rt, ↓out_nx, ↓outB_rt, ↓outB_nx, ↓th_nx, ↓th_rt, ↓th_bk, ↓th_ct, ↓lo_nx, ↓lo_ct, ↓lo_bk, ↓lo_rt, ↓e_iterL, ↓e_orX, ↓e_vals, ↓e_split, ↓e_disp1, ↓e_repl, ↓e_join, ↓e_dget, ↓e_dgetT, ↓e_din, ↓e_dinN, ↓e_newDK, ↓e_newDT, ↓e_makeP, ↓e_makeQ, ↓e_sup, ↓e_isO, ↓e_isOT, ↓e_maxD, ↓e_itRev, ↓e_pop, ↓e_dput, ↓e_makeKX, ↓e_newX, ↓e_raiseE, ↓e_try, ↓e_callE, ↓e_isE, ↓e_bodyBX, ↓e_bodyE, oQ_s, fl_s, fl_n, fl_0, ob_o, pK_n, pK_c, pD_n, pD_c, lk_c, lk_n, str_inj, gEq_lit, str_beq, iQ_t, iQ_f, eQ_e, nm_f, nm_o, rn_f, rn_o, sl_s, bl_b, in_i, ls_l, l1_l, l2_l, e0_e, wR_okE, e_forCons, e_lcCons, tb_b, ex_e, nw_n, fz_f, wp_n, wp_c, fr_n, fr_c, fzE_o, fzE_f, fzE_b, fzE_n, le_n, le_c, ld_o, ld_f, ld_b, ld_n, ba_n, ba_c, bk_o, bk_b, bk_f, bk_n, co_s, pk_n, pk_a, pk_b, pk_c, en_0, en_B, tg_n, tg_t, tg_l, tg_0, tg_c, gLen_l, gLen_t, gIs_n, isN_n, isN_b, isN_i, isN_s, isN_l, isN_t, isN_o, isN_dK, isN_dT, it_l, it_t, it_s, gIn_sg, at_o, gT_l, gT_t, gL_l, gL_t, gIsi_e, gIsi1_e, ia_n, ia_t, ia_f, gAdd_ll, gAdd_tt, gApp_if, gNeg_i, gAdd_int, gSub_int, gLt_int, gLe_int, gGt_int, gGe_int, gEq_int, gAll_e, gAny_e, gSum_e, bo_n, bo_c, io_n, io_c, bools_mapE, ints_mapE, all_mid, any_mid, lim_e, dFrz, dOwn, dBor, pOwn, pBor, Sl.mut, Sl.val, Sl.d, Sl.put, isL, ib_non_int, ib_non_bool, ib_non_str, ib_non_list, ib_non_tuple, ib_non_dict, ib_bl_int, ib_bl_bool, ib_bl_str, ib_bl_list, ib_bl_tuple, ib_bl_dict, ib_int_int, ib_int_bool, ib_int_str, ib_int_list, ib_int_tuple, ib_int_dict, ib_str_int, ib_str_bool, ib_str_str, ib_str_list, ib_str_tuple, ib_str_dict, ib_lst_int, ib_lst_bool, ib_lst_str, ib_lst_list, ib_lst_tuple, ib_lst_dict, ib_tup_int, ib_tup_bool, ib_tup_str, ib_tup_list, ib_tup_tuple, ib_tup_dict, ib_dK_int, ib_dK_bool, ib_dK_str, ib_dK_list, ib_dK_tuple, ib_dK_dict, ib_dT_int, ib_dT_bool, ib_dT_str, ib_dT_list, ib_dT_tuple, ib_dT_dict, ib_scr_int, ib_scr_bool, ib_scr_str, ib_scr_list, ib_scr_tuple, ib_scr_dict, gIx_t0, gIx_t1, gIx_t2, gIx_t3, gIx_t4, gIx_t5, gIx_t6, gIx_t7, gIx_t8, gIx_t9, gIx_l0, gIx_l1, gIx_l2, gIx_l3, gIx_l4, gIx_l5, gIx_l6, gIx_l7, gIx_l8, gIx_l9, gIx_lm, gMod_if, gDiv_if, gMul_if, gPow_10_3, gPow_10_4, gPow_10_5, gPow_10_6, gPow_10_9, gPow_10_10, gPow_10_11, gPow_10_12, gPow_10_18, gMul_fi, gMul_md, ixN_0, ixN_1, ixN_2, ixN_3, ixN_4, ixN_5, ixN_6, ixN_7, ixN_8, ixN_9, tru_n, tru_i, tru_b, bne_self_eq_false, va_k, strQ_s, ls2_t, ls2_l, isO_o, isO_n, isO_b, isO_i, isO_s, isO_l, isO_t, isO_k, isOA_n, isOA_c, key_i, key_s, keys_n, keys_c, dget_K, dget_T, din_K, val_n, val_c, gMulX_i, gMulX_l, bx_f, bx_t, dk_k, gTuple_l, Option.isSome_some, Option.isSome_none, gIsiO_n, gIsiO_b, gIsiO_i, gIsiO_s, gIsiO_l, gIsiO_t, gIsiO_k, ne_s, ne_z, ne_n, ix_f, ix_o, ix_b, ix_x, tN_n, tN_r, tT_n, tT_r, List.getElem?_cons_zero, List.getElem?_cons_succ, List.getElem?_nil, List.set_cons_zero, List.set_cons_succ, List.map_cons, List.map_nil, List.length_cons, List.length_nil, List.replicate, List.cons_append, List.nil_append, Nat.reduceAdd, Nat.reduceSub, Nat.reduceEqDiff, Option.map_some, Option.map_none, Option.bind_some, if_true, if_false, decide_true, decide_false, Bool.not_true, Bool.not_false, Bool.and_true, Bool.true_and, Bool.and_false, Bool.false_and, Bool.or_true, Bool.true_or, Bool.or_false, Bool.false_or, Int.reduceLT, String.reduceEq, Int.reduceLE, Int.reduceEq, Int.reduceAdd, Int.reduceSub, Int.reduceNeg, Int.reduceMul, Int.reduceDiv, Int.reduceMod, Int.cast_ofNat_Int, Int.natCast_zero, Int.toNat_natCast, Int.reduceToNat, Bool.bne_false, Bool.bne_true, Bool.false_bne, Bool.true_bne, reduceIte, reduceCtorEq, ite_true, ite_false, Bool.false_eq_true, List.zip_cons_cons, List.zip_nil_right, List.getD_cons_zero, List.getD_cons_succ, true_and, and_true, and_self, Nat.reduceLT, Nat.reduceLeDiff, List.all_cons, List.all_nil, List.any_cons, List.any_nil, id_eq, df_Style, df_init])
local macro_rules | `(tactic| walk_at "t1*") => `(tactic| simp only [↓e_con, ↓e_name, ↓e_lift1, ↓e_lift2, ↓e_bool, ↓e_andT, ↓e_orT, ↓e_notT, ↓e_yes, ↓e_andV, ↓e_orV, ↓e_notV, ↓e_ifV, ↓e_argsNil, ↓e_argsCons, ↓e_lst, ↓e_tup, ↓e_callG, ↓e_call, ↓e_call0, ↓e_callK, ↓e_callB, ↓e_ixN, ↓e_peek2, ↓e_peekC, ↓e_partN, ↓e_part, ↓e_slice, ↓e_chain, ↓e_isT, ↓e_isE, ↓e_mut, ↓e_meth, ↓e_noDict, ↓e_attr, ↓e_lstRg, ↓e_new, ↓e_makeK, ↓e_next, ↓e_brk, ↓e_cont, ↓e_seq, ↓e_expr, ↓e_ret, ↓e_retN, ↓e_retName, ↓e_if, ↓e_set, ↓e_asg, ↓e_aug, ↓e_par, ↓e_raise, ↓e_for, ↓e_iterE, ↓e_iterG, ↓e_forNil, ↓e_setAt, ↓e_setIx, ↓e_comp, ↓e_lcNil, ↓e_body, ↓e_bodyB, ↓out_rt, ↓out_nx, ↓outB_rt, ↓outB_nx, ↓th_nx, ↓th_rt, ↓th_bk, ↓th_ct, ↓lo_nx, ↓lo_ct, ↓lo_bk, ↓lo_rt, ↓e_iterL, ↓e_orX, ↓e_vals, ↓e_split, ↓e_disp1, ↓e_repl, ↓e_join, ↓e_dget, ↓e_dgetT, ↓e_din, ↓e_dinN, ↓e_newDK, ↓e_newDT, ↓e_makeP, ↓e_makeQ, ↓e_sup, ↓e_isO, ↓e_isOT, ↓e_maxD, ↓e_itRev, ↓e_pop, ↓e_dput, ↓e_makeKX, ↓e_newX, ↓e_raiseE, ↓e_try, ↓e_callE, ↓e_isE, ↓e_bodyBX, ↓e_bodyE, oQ_s, fl_s, fl_n, fl_0, ob_o, pK_n, pK_c, pD_n, pD_c, lk_c, lk_n, str_inj, gEq_lit, str_beq, iQ_t, iQ_f, eQ_e, nm_f, nm_o, rn_f, rn_o, sl_s, bl_b, in_i, ls_l, l1_l, l2_l, e0_e, wR_okE, e_forCons, e_lcCons, tb_b, ex_e, nw_n, fz_f, wp_n, wp_c, fr_n, fr_c, fzE_o, fzE_f, fzE_b, fzE_n, le_n, le_c, ld_o, ld_f, ld_b, ld_n, ba_n, ba_c, bk_o, bk_b, bk_f, bk_n, co_s, pk_n, pk_a, pk_b, pk_c, en_0, en_B, tg_n, tg_t, tg_l, tg_0, tg_c, gLen_l, gLen_t, gIs_n, isN_n, isN_b, isN_i, isN_s, isN_l, isN_t, isN_o, isN_dK, isN_dT, it_l, it_t, it_s, gIn_sg, at_o, gT_l, gT_t, gL_l, gL_t, gIsi_e, gIsi1_e, ia_n, ia_t, ia_f, gAdd_ll, gAdd_tt, gApp_if, gNeg_i, gAdd_int, gSub_int, gLt_int, gLe_int, gGt_int, gGe_int, gEq_int, gAll_e, gAny_e, gSum_e, bo_n, bo_c, io_n, io_c, bools_mapE, ints_mapE, all_mid, any_mid, lim_e, dFrz, dOwn, dBor, pOwn, pBor, Sl.mut, Sl.val, Sl.d, Sl.put, isL, ib_non_int, ib_non_bool, ib_non_str, ib_non_list, ib_non_tuple, ib_non_dict, ib_bl_int, ib_bl_bool, ib_bl_str, ib_bl_list, ib_bl_tuple, ib_bl_dict, ib_int_int, ib_int_bool, ib_int_str, ib_int_list, ib_int_tuple, ib_int_dict, ib_str_int, ib_str_bool, ib_str_str, ib_str_list, ib_str_tuple, ib_str_dict, ib_lst_int, ib_lst_bool, ib_lst_str, ib_lst_list, ib_lst_tuple, ib_lst_dict, ib_tup_int, ib_tup_bool, ib_tup_str, ib_tup_list, ib_tup_tuple, ib_tup_dict, ib_dK_int, ib_dK_bool, ib_dK_str, ib_dK_list, ib_dK_tuple, ib_dK_dict, ib_dT_int, ib_dT_bool, ib_dT_str, ib_dT_list, ib_dT_tuple, ib_dT_dict, ib_scr_int, ib_scr_bool, ib_scr_str, ib_scr_list, ib_scr_tuple, ib_scr_dict, gIx_t0, gIx_t1, gIx_t2, gIx_t3, gIx_t4, gIx_t5, gIx_t6, gIx_t7, gIx_t8, gIx_t9, gIx_l0, gIx_l1, gIx_l2, gIx_l3, gIx_l4, gIx_l5, gIx_l6, gIx_l7, gIx_l8, gIx_l9, gIx_lm, gMod_if, gDiv_if, gMul_if, gPow_10_3, gPow_10_4, gPow_10_5, gPow_10_6, gPow_10_9, gPow_10_10, gPow_10_11, gPow_10_12, gPow_10_18, gMul_fi, gMul_md, ixN_0, ixN_1, ixN_2, ixN_3, ixN_4, ixN_5, ixN_6, ixN_7, ixN_8, ixN_9, tru_n, tru_i, tru_b, bne_self_eq_false, va_k, strQ_s, ls2_t, ls2_l, isO_o, isO_n, isO_b, isO_i, isO_s, isO_l, isO_t, isO_k, isOA_n, isOA_c, key_i, key_s, keys_n, keys_c, dget_K, dget_T, din_K, val_n, val_c, gMulX_i, gMulX_l, bx_f, bx_t, dk_k, gTuple_l, Option.isSome_some, Option.isSome_none, gIsiO_n, gIsiO_b, gIsiO_i, gIsiO_s, gIsiO_l, gIsiO_t, gIsiO_k, ne_s, ne_z, ne_n, ix_f, ix_o, ix_b, ix_x, tN_n, tN_r, tT_n, tT_r, List.getElem?_cons_zero, List.getElem?_cons_succ, List.getElem?_nil, List.set_cons_zero, List.set_cons_succ, List.map_cons, List.map_nil, List.length_cons, List.length_nil, List.replicate, List.cons_append, List.nil_append, Nat.reduceAdd, Nat.reduceSub, Nat.reduceEqDiff, Option.map_some, Option.map_none, Option.bind_some, if_true, if_false, decide_true, decide_false, Bool.not_true, Bool.not_false, Bool.and_true, Bool.true_and, Bool.and_false, Bool.false_and, Bool.or_true, Bool.true_or, Bool.or_false, Bool.false_or, Int.reduceLT, String.reduceEq, Int.reduceLE, Int.reduceEq, Int.reduceAdd, Int.reduceSub, Int.reduceNeg, Int.reduceMul, Int.reduceDiv, Int.reduceMod, Int.cast_ofNat_Int, Int.natCast_zero, Int.toNat_natCast, Int.reduceToNat, Bool.bne_false, Bool.bne_true, Bool.false_bne, Bool.true_bne, reduceIte, reduceCtorEq, ite_true, ite_false, Bool.false_eq_true, List.zip_cons_cons, List.zip_nil_right, List.getD_cons_zero, List.getD_cons_succ, true_and, and_true, and_self, Nat.reduceLT, Nat.reduceLeDiff, List.all_cons, List.all_nil, List.any_cons, List.any_nil, id_eq, df_Style, df_init, *])
theorem no_count_s {s : D} (hs : IsSrc s) : wR (D_no_count [s]) (fun p => ∃ d s', okT d ∧ sizeB d = false ∧ rimsB d = false ∧ IsSrc s' ∧ p = (.frz d, [s'])) fun _ _ => False := wE_in (by
  unfold D_no_count d_no_count
  walk_at "t1"
  with_reducible refine wE_mon (number_s hs) ?_
  rintro _ ⟨k, s1, k0, hs1, rfl⟩
  walk_at "t1"
  with_reducible refine wE_mon (next_s hs1 (by decide) (by decide)) ?_
  rintro _ ⟨r, s2, h0, h1, hs2, rfl⟩
  walk_at "t1"
  obtain ⟨d, hd, e⟩ := pick (ds := [.bl true, .bl false, .str (Str.ofString "3"), .str (Str.ofString ""), .tup [.int 3], .lst [.int 3], .lst [], .dK [] [], .tup [], .int (-1), .int (-1 - k), .obj "Style" names df_Style]) h0 h1
  simp only [df_Style] at e
  rw [e]
  walk_at "t1"
  refine ⟨d, s2, ?_, ?_, ?_, hs2, rfl⟩ <;> simp only [List.mem_cons, List.not_mem_nil, or_false] at hd <;> rcases hd with rfl | rfl | rfl | rfl | rfl | rfl | rfl | rfl | rfl | rfl | rfl | rfl
  · exact okT_b
  · exact okT_b
  · exact okT_s (by decide)
  · exact okT_s (by decide)
  · exact okT_t (by simp) (by simp only [List.mem_cons, List.not_mem_nil, or_false]; rintro x rfl; trivial)
  · exact okT_l
  · exact okT_l
  · exact okT_k
  · exact okT_t (by simp) (fun x hx => by cases hx)
  · exact okT_i
  · exact okT_i
  · exact okT_o bt_S
  · rfl
  · rfl
  · rfl
  · rfl
  · rfl
  · rfl
  · rfl
  · rfl
  · rfl
  · rfl
  · exact size_no (by omega)
  · rfl
  all_goals rfl)
theorem app_list (a b : Str) : (a ++ b).cps.toList = a.cps.toList ++ b.cps.toList := TL.tl_append a b
theorem str_len (z : Str) : z.length = z.cps.toList.length := by show z.cps.size = _; simp
theorem cut_le (z : Str) (lo hi : Option Int) : (cutS z lo hi).length ≤ z.length := by
  rw [str_len, str_len]
  unfold cutS
  simp only [List.length_take, List.length_drop]
  omega
theorem nameS_no {s : Str} {c : Nat} (h : c ∈ s.cps.toList) (hc : c ∉ letters.cps.toList) : nameS s = false := by
  cases e : nameS s with
  | false => rfl
  | true =>
    unfold nameS at e
    simp only [Bool.and_eq_true, List.all_eq_true, decide_eq_true_eq] at e
    exact absurd (e.2 c h) hc
theorem nameS_long {s : Str} (h : 8 < s.length) : nameS s = false := by
  unfold nameS
  rw [decide_eq_false (show ¬ s.length ≤ 8 by omega), Bool.and_false, Bool.false_and]
def badSigns : Str := Str.ofString "ABCDEFGHIJKLMNOPQRSTUVWXYZ0123456789 -_.,:+=\n"
theorem bad_no : ∀ c ∈ badSigns.cps.toList, c ∉ letters.cps.toList := by decide +kernel
theorem bad_len : badSigns.length = 45 := by decide +kernel
theorem gLen_s {s : Str} (h : s.length ≤ 16000000) : gLen [.str s] = some (.frz (.int s.length)) := if_pos h
theorem bad_gLen : gLen [.str badSigns] = some (.frz (.int 45)) := by
  rw [gLen_s (by rw [bad_len]; decide), bad_len]
  rfl
theorem gIx_p {ds : List D} {n : Nat} {d : D} (h : ds[n]? = some d) : gIx (.lst ds) (.int (n : Int)) = some (.frz d) := by
  have hl := (List.getElem?_eq_some_iff.mp h).1
  show (atI _ _).map _ = _
  unfold atI ixN
  rw [if_pos (by omega), if_pos (by omega)]
  simp only [Option.bind_some, Int.toNat_natCast, h]
  rfl
theorem no_name_s {s : D} (hs : IsSrc s) : wR (D_no_name [s]) (fun p => ∃ d s', okO d ∧ nameB d = false ∧ IsSrc s' ∧ p = (.frz d, [s'])) fun _ _ => False := wE_in (by
  unfold D_no_name d_no_name
  have hb := bad_gLen
  have hb2 := bad_len
  rw [show Str.ofString "ABCDEFGHIJKLMNOPQRSTUVWXYZ0123456789 -_.,:+=\n" = badSigns from rfl]
  walk_at "e"
  with_reducible refine wE_mon (next_s hs (by decide) (by decide)) ?_
  rintro _ ⟨n, s1, n0, n1, hs1, rfl⟩
  walk_at "e"
  with_reducible refine wE_mon (next_s hs1 (by omega) (by omega)) ?_
  rintro _ ⟨a, s2, a0, a1, hs2, rfl⟩
  walk_at "e"
  with_reducible refine wE_mon (name_s hs2 (by omega) (by omega)) ?_
  rintro _ ⟨nm, s3, hl, hnm, hs3, rfl⟩
  have f1 : gSl (.str nm) none (some a) = some (.frz (.str (cutS nm none (some a)))) := gSl_str (by omega)
  have f2 : gSl (.str nm) (some a) none = some (.frz (.str (cutS nm (some a) none))) := gSl_str (by omega)
  have l1 := cut_le nm none (some a)
  have l2 := cut_le nm (some a) none
  walk_at "e"
  simp only [f1]
  walk_at "e"
  simp only [hb]
  walk_at "e"
  with_reducible refine wE_mon (next_s hs3 (by decide) (by decide)) ?_
  rintro _ ⟨q, s4, q0, q1, hs4, rfl⟩
  obtain ⟨c, hc, hx⟩ := gIx_str (z := badSigns) (r := q) (by rw [hb2]; decide) q0 (by rw [hb2]; exact q1)
  have hc2 := bad_no c hc
  generalize cutS nm none (some a) = A at *
  generalize cutS nm (some a) none = B at *
  have g1 : gAdd (.str A) (.str ⟨#[c]⟩) = some (.frz (.str (A ++ ⟨#[c]⟩))) := gAdd_str (by show A.length + 1 ≤ _; omega)
  have ls := sg_cat A c
  have g2 : gAdd (.str (A ++ ⟨#[c]⟩)) (.str B) = some (.frz (.str (A ++ ⟨#[c]⟩ ++ B))) := gAdd_str (by omega)
  have hbad : nameS (A ++ ⟨#[c]⟩ ++ B) = false := nameS_no (c := c) (by rw [app_list, ls.2]; simp) hc2
  have hlen : (A ++ (⟨#[c]⟩ : Str) ++ B).length ≤ 16000000 := by
    rw [str_len, app_list, List.length_append, ls.2, List.length_append, ← str_len, ← str_len]
    simp
    omega
  generalize (A ++ (⟨#[c]⟩ : Str) ++ B) = w at *
  walk_at "e"
  simp only [hx]
  walk_at "e"
  simp only [g1]
  walk_at "e"
  simp only [f2]
  walk_at "e"
  simp only [g2]
  walk_at "e"
  with_reducible refine wE_mon (next_s hs4 (by decide) (by decide)) ?_
  rintro _ ⟨k, s5, k0, k1, hs5, rfl⟩
  walk_at "e"
  with_reducible refine wE_mon (name_s hs5 (by omega) (by omega)) ?_
  rintro _ ⟨lng, s6, hll, _, hs6, rfl⟩
  walk_at "e"
  with_reducible refine wE_mon (next_s hs6 (by decide) (by decide)) ?_
  rintro _ ⟨r, s7, r0, r1, hs7, rfl⟩
  obtain ⟨i, hi, e⟩ := pick (ds := [.int 0, .int 0, .int 0, .int 1, .int 2, .int 2, .int 3, .int 4, .int 5, .int 6]) r0 r1
  walk_at "e"
  rw [e]
  have hj : ∃ j : Int, i = .int j ∧ 0 ≤ j ∧ j < 7 := by
    simp only [List.mem_cons, List.not_mem_nil, or_false] at hi
    rcases hi with rfl | rfl | rfl | rfl | rfl | rfl | rfl | rfl | rfl | rfl <;> exact ⟨_, rfl, by omega, by omega⟩
  obtain ⟨j, rfl, j0, j1⟩ := hj
  obtain ⟨d, hd, e2⟩ := pick (ds := [.str w, .str (Str.ofString ""), .str lng, .non, .int 5, .tup [.str (Str.ofString "a")], .lst [.str (Str.ofString "a")]]) j0 j1
  walk_at "e"
  rw [e2]
  walk_at "e"
  refine ⟨d, s7, ?_, ?_, hs7, rfl⟩ <;> simp only [List.mem_cons, List.not_mem_nil, or_false] at hd <;> rcases hd with rfl | rfl | rfl | rfl | rfl | rfl | rfl
  · exact hlen
  · show _ ≤ _; decide
  · show _ ≤ _; omega
  · trivial
  · trivial
  · trivial
  · trivial
  · exact hbad
  · rfl
  · exact nameS_long (by omega)
  all_goals rfl)

theorem cnt_of {d : D} (h : sizeB d = false) : cnt d = false ∧ isN d = false := by
  unfold sizeB at h
  simp only [Bool.or_eq_false_iff] at h
  exact ⟨h.2.1, h.1⟩
theorem size_t {xs : List D} (h1 : partB (.tup xs) = false) (h2 : tieB (.tup xs) = false) : sizeB (.tup xs) = false := by
  show (false || (false || (partB (.tup xs) || tieB (.tup xs)))) = false
  rw [h1, h2]; rfl
theorem part2 {a b : D} (h : oneB sPart a = false ∨ cnt b = false) : sizeB (.tup [a, b]) = false := size_t (by
  show (oneB sPart a && cnt b) = false
  rcases h with h | h <;> rw [h]
  · rfl
  · rw [Bool.and_false]) rfl
theorem tie4 {a b c d : D} (h : oneB sAs a = false ∨ nameB b = false ∨ oneB sSides c = false ∨ isInt d = false) : sizeB (.tup [a, b, c, d]) = false := size_t rfl (by
  show (oneB sAs a && (nameB b && (oneB sSides c && isInt d))) = false
  rcases h with h | h | h | h <;> rw [h] <;> simp)
theorem okT_2 {a b : D} (ha : okO a) (hb : okO b) : okT (.tup [a, b]) := okT_t (by simp) (by
  simp only [List.mem_cons, List.not_mem_nil, or_false]
  rintro x (rfl | rfl) <;> assumption)
theorem okT_3 {a b c : D} (ha : okO a) (hb : okO b) (hc : okO c) : okT (.tup [a, b, c]) := okT_t (by simp) (by
  simp only [List.mem_cons, List.not_mem_nil, or_false]
  rintro x (rfl | rfl | rfl) <;> assumption)
theorem okT_4 {a b c d : D} (ha : okO a) (hb : okO b) (hc : okO c) (hd : okO d) : okT (.tup [a, b, c, d]) := okT_t (by simp) (by
  simp only [List.mem_cons, List.not_mem_nil, or_false]
  rintro x (rfl | rfl | rfl | rfl) <;> assumption)
theorem okT_5 {a b c d e : D} (ha : okO a) (hb : okO b) (hc : okO c) (hd : okO d) (he : okO e) : okT (.tup [a, b, c, d, e]) := okT_t (by simp) (by
  simp only [List.mem_cons, List.not_mem_nil, or_false]
  rintro x (rfl | rfl | rfl | rfl | rfl) <;> assumption)
theorem okT_1 {a : D} (ha : okO a) : okT (.tup [a]) := okT_t (by simp) (by
  simp only [List.mem_cons, List.not_mem_nil, or_false]
  rintro x rfl; assumption)
theorem side_a (nm : Str) : oneB sSides (.str (nm ++ Str.ofString "a")) = false := by
  show ((Str.ofString "wide" == nm ++ Str.ofString "a") || ((Str.ofString "tall" == nm ++ Str.ofString "a") || false)) = false
  have h : ∀ z : Str, z.cps.toList.getLast? ≠ some 97 → (z == nm ++ Str.ofString "a") = false := fun z hz => by
    rw [beq_eq_false_iff_ne]
    intro e
    refine hz ?_
    rw [e, app_list]
    rw [show (Str.ofString "a").cps.toList = [97] by decide]
    simp
  rw [h _ (by decide), h _ (by decide)]
  rfl
def bad17 (n : Int) (nm nma : Str) : List D := [.tup [.str (Str.ofString "part")], .tup [.str (Str.ofString "part"), .int n, .int n], .tup [.str (Str.ofString "share"), .int n], .tup [.str (Str.ofString "as"), .str nm, .str (Str.ofString "wide")], .tup [.str (Str.ofString "as"), .str nm],
  .tup [.str (Str.ofString "as"), .str nm, .str (Str.ofString "wide"), .int n, .int n], .tup [.str (Str.ofString "part"), .str nm, .str (Str.ofString "wide"), .int n], .lst [.str (Str.ofString "part"), .int n],
  .lst [.str (Str.ofString "as"), .str nm, .str (Str.ofString "wide"), .int n], .tup [.str (Str.ofString "as"), .int n], .tup [.str (Str.ofString "Part"), .int n], .tup [.int n, .str (Str.ofString "part")], .str (Str.ofString "part"),
  .tup [.str (Str.ofString "as"), .str (Str.ofString "wide"), .str nma, .int n], .tup [.str (Str.ofString "tie"), .str nm, .str (Str.ofString "wide"), .int n], .tup [.non, .int n], .str nm]
theorem bad17_no {n : Int} {nm nma : Str} (h1 : nm.length ≤ 16000000) (h2 : nma.length ≤ 16000000) (h3 : oneB sSides (.str nma) = false) : ∀ d ∈ bad17 n nm nma, okT d ∧ sizeB d = false := by
  have k1 : okO (.str nm) := h1
  have k2 : okO (.str nma) := h2
  have kp : okO (.str (Str.ofString "part")) := (by decide : (Str.ofString "part").length ≤ 16000000)
  have kP : okO (.str (Str.ofString "Part")) := (by decide : (Str.ofString "Part").length ≤ 16000000)
  have ks : okO (.str (Str.ofString "share")) := (by decide : (Str.ofString "share").length ≤ 16000000)
  have ka : okO (.str (Str.ofString "as")) := (by decide : (Str.ofString "as").length ≤ 16000000)
  have kw : okO (.str (Str.ofString "wide")) := (by decide : (Str.ofString "wide").length ≤ 16000000)
  have kt : okO (.str (Str.ofString "tie")) := (by decide : (Str.ofString "tie").length ≤ 16000000)
  have ki : ∀ i : Int, okO (.int i) := fun _ => trivial
  have kn : okO .non := trivial
  unfold bad17
  simp only [List.mem_cons, List.not_mem_nil, or_false]
  rintro d (rfl | rfl | rfl | rfl | rfl | rfl | rfl | rfl | rfl | rfl | rfl | rfl | rfl | rfl | rfl | rfl | rfl)
  · exact ⟨okT_1 kp, rfl⟩
  · exact ⟨okT_3 kp (ki _) (ki _), rfl⟩
  · exact ⟨okT_2 ks (ki _), part2 (.inl (by decide))⟩
  · exact ⟨okT_3 ka k1 kw, rfl⟩
  · exact ⟨okT_2 ka k1, part2 (.inl (by decide))⟩
  · exact ⟨okT_5 ka k1 kw (ki _) (ki _), rfl⟩
  · exact ⟨okT_4 kp k1 kw (ki _), tie4 (.inl (by decide))⟩
  · exact ⟨okT_l, rfl⟩
  · exact ⟨okT_l, rfl⟩
  · exact ⟨okT_2 ka (ki _), part2 (.inl (by decide))⟩
  · exact ⟨okT_2 kP (ki _), part2 (.inl (by decide))⟩
  · exact ⟨okT_2 (ki _) kp, part2 (.inl rfl)⟩
  · exact ⟨okT_s kp, rfl⟩
  · exact ⟨okT_4 ka kw k2 (ki _), tie4 (.inr (.inr (.inl h3)))⟩
  · exact ⟨okT_4 kt k1 kw (ki _), tie4 (.inl (by decide))⟩
  · exact ⟨okT_2 kn (ki _), part2 (.inl rfl)⟩
  · exact ⟨okT_s h1, rfl⟩
theorem no_size_s {s : D} (hs : IsSrc s) : wR (D_no_size [s]) (fun p => ∃ d s', okT d ∧ sizeB d = false ∧ IsSrc s' ∧ p = (.frz d, [s'])) fun _ _ => False := wE_in (by
  have kp : okO (.str (Str.ofString "part")) := (by decide : (Str.ofString "part").length ≤ 16000000)
  have ka : okO (.str (Str.ofString "as")) := (by decide : (Str.ofString "as").length ≤ 16000000)
  have kw : okO (.str (Str.ofString "wide")) := (by decide : (Str.ofString "wide").length ≤ 16000000)
  have kt : okO (.str (Str.ofString "tall")) := (by decide : (Str.ofString "tall").length ≤ 16000000)
  have ki : ∀ i : Int, okO (.int i) := fun _ => trivial
  unfold D_no_size d_no_size
  walk_at "e"
  with_reducible refine wE_mon (next_s hs (by decide) (by decide)) ?_
  rintro _ ⟨r, s1, h0, h1, hs1, rfl⟩
  walk_at "e"
  with_reducible refine wE_mon (number_s hs1) ?_
  rintro _ ⟨n, s2, n0, hs2, rfl⟩
  walk_at "e"
  with_reducible refine wE_mon (next_s hs2 (by decide) (by decide)) ?_
  rintro _ ⟨q, s3, q0, q1, hs3, rfl⟩
  walk_at "e"
  with_reducible refine wE_mon (name_s hs3 (by omega) (by omega)) ?_
  rintro _ ⟨nm, s4, hl, hnm, hs4, rfl⟩
  have k1 : okO (.str nm) := (by omega : nm.length ≤ 16000000)
  have hr : r = 0 ∨ r = 1 ∨ r = 2 ∨ r = 3 ∨ r = 4 ∨ r = 5 := by omega
  rcases hr with rfl | rfl | rfl | rfl | rfl | rfl
  · walk_at "e"
    with_reducible refine wE_mon (no_count_s hs4) ?_
    rintro _ ⟨d, s5, hd, hd2, _, hs5, rfl⟩
    walk_at "e"
    exact ⟨_, _, hd, hd2, hs5, rfl⟩
  · walk_at "e"
    with_reducible refine wE_mon (no_count_s hs4) ?_
    rintro _ ⟨d, s5, hd, hd2, _, hs5, rfl⟩
    walk_at "e"
    exact ⟨_, _, okT_2 kp hd.1, part2 (.inr (cnt_of hd2).1), hs5, rfl⟩
  · walk_at "e"
    with_reducible refine wE_mon (no_name_s hs4) ?_
    rintro _ ⟨d, s5, hd, hd2, hs5, rfl⟩
    walk_at "e"
    exact ⟨_, _, okT_4 ka hd kw (ki _), tie4 (.inr (.inl hd2)), hs5, rfl⟩
  · walk_at "e"
    with_reducible refine wE_mon (next_s hs4 (by decide) (by decide)) ?_
    rintro _ ⟨k, s5, k0, k1', hs5, rfl⟩
    obtain ⟨d, hd, e⟩ := pick (ds := [.non, .bl true, .bl false, .str (Str.ofString "0"), .tup [.int n], .lst [.int n]]) k0 k1'
    walk_at "e"
    rw [e]
    walk_at "e"
    have hd2 : okO d ∧ isInt d = false := by
      simp only [List.mem_cons, List.not_mem_nil, or_false] at hd
      rcases hd with rfl | rfl | rfl | rfl | rfl | rfl
      · exact ⟨trivial, rfl⟩
      · exact ⟨trivial, rfl⟩
      · exact ⟨trivial, rfl⟩
      · exact ⟨(by decide : (Str.ofString "0").length ≤ 16000000), rfl⟩
      · exact ⟨trivial, rfl⟩
      · exact ⟨trivial, rfl⟩
    exact ⟨_, _, okT_4 ka k1 kt hd2.1, tie4 (.inr (.inr (.inr hd2.2))), hs5, rfl⟩
  · walk_at "e"
    with_reducible refine wE_mon (next_s hs4 (by decide) (by decide)) ?_
    rintro _ ⟨k, s5, k0, k1', hs5, rfl⟩
    obtain ⟨d, hd, e⟩ := pick (ds := [.str (Str.ofString "high"), .str (Str.ofString "least"), .str (Str.ofString ""), .str (Str.ofString "Wide"), .str (Str.ofString "wide "), .str (Str.ofString "walltide"), .non, .int 0, .bl true, .tup [.str (Str.ofString "wide")]]) k0 k1'
    walk_at "e"
    rw [e]
    walk_at "e"
    have hd2 : okO d ∧ oneB sSides d = false := by
      simp only [List.mem_cons, List.not_mem_nil, or_false] at hd
      rcases hd with rfl | rfl | rfl | rfl | rfl | rfl | rfl | rfl | rfl | rfl
      · exact ⟨(by decide : Str.length _ ≤ 16000000), by decide⟩
      · exact ⟨(by decide : Str.length _ ≤ 16000000), by decide⟩
      · exact ⟨(by decide : Str.length _ ≤ 16000000), by decide⟩
      · exact ⟨(by decide : Str.length _ ≤ 16000000), by decide⟩
      · exact ⟨(by decide : Str.length _ ≤ 16000000), by decide⟩
      · exact ⟨(by decide : Str.length _ ≤ 16000000), by decide⟩
      · exact ⟨trivial, rfl⟩
      · exact ⟨trivial, rfl⟩
      · exact ⟨trivial, rfl⟩
      · exact ⟨trivial, rfl⟩
    exact ⟨_, _, okT_4 ka k1 hd2.1 (ki _), tie4 (.inr (.inr (.inl hd2.2))), hs5, rfl⟩
  · have ha : gAdd (.str nm) (.str (Str.ofString "a")) = some (.frz (.str (nm ++ Str.ofString "a"))) := gAdd_str (by rw [show (Str.ofString "a").length = 1 by decide]; omega)
    have hs' := side_a nm
    have hl2 : (nm ++ Str.ofString "a").length ≤ 16000000 := by
      rw [str_len, app_list, List.length_append, ← str_len, show (Str.ofString "a").cps.toList.length = 1 by decide]
      omega
    generalize nm ++ Str.ofString "a" = nma at *
    walk_at "e"
    simp only [ha]
    walk_at "e"
    with_reducible refine wE_mon (next_s hs4 (by decide) (by decide)) ?_
    rintro _ ⟨k, s5, k0, k1', hs5, rfl⟩
    obtain ⟨d, hd, e⟩ := pick (ds := bad17 n nm nma) k0 k1'
    simp only [bad17] at e
    walk_at "e"
    rw [e]
    walk_at "e"
    have H := bad17_no (n := n) k1 hl2 hs' d hd
    exact ⟨_, _, H.1, H.2, hs5, rfl⟩)

theorem rims_t4 {a b c d : D} (h : cnt a = false ∨ cnt b = false ∨ cnt c = false ∨ cnt d = false) : rimsB (.tup [a, b, c, d]) = false := by
  show (cnt a && (cnt b && (cnt c && cnt d))) = false
  rcases h with h | h | h | h <;> rw [h] <;> simp
theorem no_rims_s {s : D} (hs : IsSrc s) : wR (D_no_rims [s]) (fun p => ∃ d s', okT d ∧ rimsB d = false ∧ IsSrc s' ∧ p = (.frz d, [s'])) fun _ _ => False := wE_in (by
  have ki : ∀ i : Int, okO (.int i) := fun _ => trivial
  unfold D_no_rims d_no_rims
  walk_at "s7"
  with_reducible refine wE_mon (number_s hs) ?_
  rintro _ ⟨a, s1, a0, hs1, rfl⟩
  walk_at "s7"
  with_reducible refine wE_mon (number_s hs1) ?_
  rintro _ ⟨b, s2, b0, hs2, rfl⟩
  walk_at "s7"
  with_reducible refine wE_mon (number_s hs2) ?_
  rintro _ ⟨c, s3, c0, hs3, rfl⟩
  walk_at "s7"
  with_reducible refine wE_mon (number_s hs3) ?_
  rintro _ ⟨d, s4, d0, hs4, rfl⟩
  walk_at "s7"
  with_reducible refine wE_mon (next_s hs4 (by decide) (by decide)) ?_
  rintro _ ⟨r, s5, r0, r1, hs5, rfl⟩
  have hr : r = 0 ∨ r = 1 ∨ r = 2 ∨ r = 3 := by omega
  rcases hr with rfl | rfl | rfl | rfl
  · have e3 : gSl (.lst [.int a, .int b, .int c, .int d]) none (some 3) = some (.own (.lst [.int a, .int b, .int c])) := rfl
    walk_at "s7"
    simp only [e3]
    walk_at "s7"
    with_reducible refine wE_mon (no_count_s hs5) ?_
    rintro _ ⟨x, s6, hx, hx2, _, hs6, rfl⟩
    have hc := (cnt_of hx2).1
    have ho := hx.1
    walk_at "s7"
    with_reducible refine wE_mon (next_s hs6 (by decide) (by decide)) ?_
    rintro _ ⟨q, s7, q0, q1, hs7, rfl⟩
    have hq : q = 0 ∨ q = 1 ∨ q = 2 ∨ q = 3 := by omega
    rcases hq with rfl | rfl | rfl | rfl
    · have f1 : gSl (.lst [.int a, .int b, .int c, x]) (some 0) none = some (.own (.lst [.int a, .int b, .int c, x])) := rfl
      have f2 : gSl (.lst [.int a, .int b, .int c, x]) none (some 0) = some (.own (.lst [])) := rfl
      walk_at "s7"
      simp only [f1]
      walk_at "s7"
      simp only [f2]
      walk_at "s7"
      exact ⟨_, _, okT_4 (ki _) (ki _) (ki _) ho, rims_t4 (.inr (.inr (.inr hc))), hs7, rfl⟩
    · have f1 : gSl (.lst [.int a, .int b, .int c, x]) (some 1) none = some (.own (.lst [.int b, .int c, x])) := rfl
      have f2 : gSl (.lst [.int a, .int b, .int c, x]) none (some 1) = some (.own (.lst [.int a])) := rfl
      walk_at "s7"
      simp only [f1]
      walk_at "s7"
      simp only [f2]
      walk_at "s7"
      exact ⟨_, _, okT_4 (ki _) (ki _) ho (ki _), rims_t4 (.inr (.inr (.inl hc))), hs7, rfl⟩
    · have f1 : gSl (.lst [.int a, .int b, .int c, x]) (some 2) none = some (.own (.lst [.int c, x])) := rfl
      have f2 : gSl (.lst [.int a, .int b, .int c, x]) none (some 2) = some (.own (.lst [.int a, .int b])) := rfl
      walk_at "s7"
      simp only [f1]
      walk_at "s7"
      simp only [f2]
      walk_at "s7"
      exact ⟨_, _, okT_4 (ki _) ho (ki _) (ki _), rims_t4 (.inr (.inl hc)), hs7, rfl⟩
    · have f1 : gSl (.lst [.int a, .int b, .int c, x]) (some 3) none = some (.own (.lst [x])) := rfl
      have f2 : gSl (.lst [.int a, .int b, .int c, x]) none (some 3) = some (.own (.lst [.int a, .int b, .int c])) := rfl
      walk_at "s7"
      simp only [f1]
      walk_at "s7"
      simp only [f2]
      walk_at "s7"
      exact ⟨_, _, okT_4 ho (ki _) (ki _) (ki _), rims_t4 (.inl hc), hs7, rfl⟩
  · walk_at "t1"
    with_reducible refine wE_mon (next_s hs5 (by decide) (by decide)) ?_
    rintro _ ⟨q, s6, q0, q1, hs6, rfl⟩
    obtain ⟨x, hx, e⟩ := pick (ds := [.lst [.int a, .int b, .int c, .int d], .non, .int 0, .str (Str.ofString "0000"), .dK [] [], .tup [], .obj "Style" names df_Style, .bl true]) q0 q1
    simp only [df_Style] at e
    walk_at "t1"
    rw [e]
    walk_at "t1"
    have H : okT x ∧ rimsB x = false := by
      simp only [List.mem_cons, List.not_mem_nil, or_false] at hx
      rcases hx with rfl | rfl | rfl | rfl | rfl | rfl | rfl | rfl
      · exact ⟨okT_l, rfl⟩
      · exact ⟨okT_n, rfl⟩
      · exact ⟨okT_i, rfl⟩
      · exact ⟨okT_s (by decide), rfl⟩
      · exact ⟨okT_k, rfl⟩
      · exact ⟨okT_t (by simp) (fun x hx => by cases hx), rfl⟩
      · exact ⟨okT_o bt_S, rfl⟩
      · exact ⟨okT_b, rfl⟩
    exact ⟨_, _, H.1, H.2, hs6, rfl⟩
  · walk_at "s7"
    with_reducible refine wE_mon (next_s hs5 (by decide) (by decide)) ?_
    rintro _ ⟨q, s6, q0, q1, hs6, rfl⟩
    have hq : q = 0 ∨ q = 1 ∨ q = 2 ∨ q = 3 := by omega
    rcases hq with rfl | rfl | rfl | rfl
    · have f1 : gSl (.lst [.int a, .int b, .int c, .int d]) none (some 0) = some (.own (.lst [])) := rfl
      walk_at "s7"
      simp only [f1]
      walk_at "s7"
      exact ⟨_, _, okT_t (by simp) (fun x hx => by cases hx), rfl, hs6, rfl⟩
    · have f1 : gSl (.lst [.int a, .int b, .int c, .int d]) none (some 1) = some (.own (.lst [.int a])) := rfl
      walk_at "s7"
      simp only [f1]
      walk_at "s7"
      exact ⟨_, _, okT_1 (ki _), rfl, hs6, rfl⟩
    · have f1 : gSl (.lst [.int a, .int b, .int c, .int d]) none (some 2) = some (.own (.lst [.int a, .int b])) := rfl
      walk_at "s7"
      simp only [f1]
      walk_at "s7"
      exact ⟨_, _, okT_2 (ki _) (ki _), rfl, hs6, rfl⟩
    · have f1 : gSl (.lst [.int a, .int b, .int c, .int d]) none (some 3) = some (.own (.lst [.int a, .int b, .int c])) := rfl
      walk_at "s7"
      simp only [f1]
      walk_at "s7"
      exact ⟨_, _, okT_3 (ki _) (ki _) (ki _), rfl, hs6, rfl⟩
  · walk_at "s7"
    with_reducible refine wE_mon (next_s hs5 (by decide) (by decide)) ?_
    rintro _ ⟨q, s6, q0, q1, hs6, rfl⟩
    have hq : q = 0 ∨ q = 1 := by omega
    rcases hq with rfl | rfl
    · have f1 : gMul (.lst [.int 0]) (.int 1) = some (.own (.lst [.int 0])) := rfl
      walk_at "s7"
      simp only [f1]
      walk_at "s7"
      exact ⟨_, _, okT_5 (ki _) (ki _) (ki _) (ki _) (ki _), rfl, hs6, rfl⟩
    · have f1 : gMul (.lst [.int 0]) (.int 2) = some (.own (.lst [.int 0, .int 0])) := rfl
      walk_at "s7"
      simp only [f1]
      walk_at "s7"
      refine ⟨_, _, okT_t (by simp) ?_, rfl, hs6, rfl⟩
      simp only [List.mem_cons, List.not_mem_nil, or_false]
      rintro x (rfl | rfl | rfl | rfl | rfl | rfl) <;> trivial)
def wOk (w : Str) : Bool := decide (w.length ≤ 10) && decide ((Txt.upper w).length ≤ 10) && !(oneB sStands (.str (w ++ Str.ofString " "))) && !(oneB sStands (.str (Str.ofString " " ++ w))) && !(oneB sStands (.str (Txt.upper w))) && !(oneB sStands (.str (cutS w none (some (-1))))) && !(oneB sStands (.str (w ++ Str.ofString "s")))
theorem wOk_s : sStands.all wOk = true := by decide +kernel
theorem stand_no {x : Str} (h : oneB sStands (.str x) = false) : standB (.str x) = false := by
  show (false || oneB sStands (.str x)) = false
  rw [h]; rfl
theorem no_stand_s {s : D} (hs : IsSrc s) : wR (D_no_stand [s]) (fun p => ∃ d s', okT d ∧ standB d = false ∧ IsSrc s' ∧ p = (.frz d, [s'])) fun _ _ => False := wE_in (by
  unfold D_no_stand d_no_stand
  walk_at "e"
  with_reducible refine wE_mon (next_s hs (by decide) (by decide)) ?_
  rintro _ ⟨r, s1, r0, r1, hs1, rfl⟩
  obtain ⟨x, hx, e⟩ := pick (ds := [.str (Str.ofString "start"), .str (Str.ofString "end"), .str (Str.ofString "middle"), .str (Str.ofString "stretch"), .str (Str.ofString "base")]) r0 r1
  have hw : ∃ w ∈ sStands, x = .str w := by
    simp only [List.mem_cons, List.not_mem_nil, or_false] at hx
    rcases hx with rfl | rfl | rfl | rfl | rfl <;> exact ⟨_, by simp [sStands], rfl⟩
  obtain ⟨w, hw, rfl⟩ := hw
  have H := List.all_eq_true.mp wOk_s w hw
  unfold wOk at H
  simp only [Bool.and_eq_true, decide_eq_true_eq, Bool.not_eq_true'] at H
  obtain ⟨⟨⟨⟨⟨⟨l1, l2⟩, h1⟩, h2⟩, h3⟩, h4⟩, h5⟩ := H
  have g1 : gAdd (.str w) (.str (Str.ofString " ")) = some (.frz (.str (w ++ Str.ofString " "))) := gAdd_str (by rw [show (Str.ofString " ").length = 1 by decide]; omega)
  have g2 : gAdd (.str (Str.ofString " ")) (.str w) = some (.frz (.str (Str.ofString " " ++ w))) := gAdd_str (by rw [show (Str.ofString " ").length = 1 by decide]; omega)
  have g3 : gUpper (.str w) = some (.frz (.str (Txt.upper w))) := if_pos (by omega)
  have g4 : gSl (.str w) none (some (-1)) = some (.frz (.str (cutS w none (some (-1))))) := gSl_str (by omega)
  have g5 : gAdd (.str w) (.str (Str.ofString "s")) = some (.frz (.str (w ++ Str.ofString "s"))) := gAdd_str (by rw [show (Str.ofString "s").length = 1 by decide]; omega)
  have k1 : (w ++ Str.ofString " ").length ≤ 16000000 := by rw [str_len, app_list, List.length_append, ← str_len, show (Str.ofString " ").cps.toList.length = 1 by decide]; omega
  have k2 : (Str.ofString " " ++ w).length ≤ 16000000 := by rw [str_len, app_list, List.length_append, show (Str.ofString " ").cps.toList.length = 1 by decide, ← str_len]; omega
  have k4 := cut_le w none (some (-1))
  have k5 : (w ++ Str.ofString "s").length ≤ 16000000 := by rw [str_len, app_list, List.length_append, ← str_len, show (Str.ofString "s").cps.toList.length = 1 by decide]; omega
  clear hx hw
  generalize w ++ Str.ofString " " = w1 at *
  generalize Str.ofString " " ++ w = w2 at *
  generalize Txt.upper w = w3 at *
  generalize cutS w none (some (-1)) = w4 at *
  generalize w ++ Str.ofString "s" = w5 at *
  walk_at "e"
  simp only [e]
  walk_at "e"
  simp only [g1]
  walk_at "e"
  simp only [g2]
  walk_at "e"
  simp only [g3]
  walk_at "e"
  simp only [g4]
  walk_at "e"
  simp only [g5]
  walk_at "e"
  with_reducible refine wE_mon (next_s hs1 (by decide) (by decide)) ?_
  rintro _ ⟨q, s2, q0, q1, hs2, rfl⟩
  obtain ⟨x, hx, e2⟩ := pick (ds := [.str (Str.ofString ""), .str w1, .str w2, .str w3, .str w4, .str w5, .str (Str.ofString "between"), .str (Str.ofString "center"), .tup [.str w], .lst [.str w], .int 0, .int 1, .bl true, .bl false, .dK [] [], .tup []]) q0 q1
  walk_at "e"
  rw [e2]
  walk_at "e"
  have H : okT x ∧ standB x = false := by
    simp only [List.mem_cons, List.not_mem_nil, or_false] at hx
    rcases hx with rfl | rfl | rfl | rfl | rfl | rfl | rfl | rfl | rfl | rfl | rfl | rfl | rfl | rfl | rfl | rfl
    · exact ⟨okT_s (by decide), by decide⟩
    · exact ⟨okT_s k1, stand_no h1⟩
    · exact ⟨okT_s k2, stand_no h2⟩
    · exact ⟨okT_s (by omega), stand_no h3⟩
    · exact ⟨okT_s (by omega), stand_no h4⟩
    · exact ⟨okT_s k5, stand_no h5⟩
    · exact ⟨okT_s (by decide), by decide⟩
    · exact ⟨okT_s (by decide), by decide⟩
    · exact ⟨okT_1 (by show w.length ≤ _; omega), rfl⟩
    · exact ⟨okT_l, rfl⟩
    · exact ⟨okT_i, rfl⟩
    · exact ⟨okT_i, rfl⟩
    · exact ⟨okT_b, rfl⟩
    · exact ⟨okT_b, rfl⟩
    · exact ⟨okT_k, rfl⟩
    · exact ⟨okT_t (by simp) (fun x hx => by cases hx), rfl⟩
  exact ⟨_, _, H.1, H.2, hs2, rfl⟩)
theorem bound_no {d : D} (h : sizeB d = false) : boundB d = false := by
  show (isN d || cnt d) = false
  rw [(cnt_of h).1, (cnt_of h).2]; rfl
theorem spoilt_s {s : D} {n : Nat} (hs : IsSrc s) (hn : n < 10) : wR (D_spoilt [s, .int (n : Int)]) (fun p => ∃ d s', okT d ∧ chk n d = false ∧ IsSrc s' ∧ p = (.frz d, [s'])) fun _ _ => False := wE_in (by
  have h : (n = 0 ∨ n = 1) ∨ (n = 2 ∨ n = 3 ∨ n = 4 ∨ n = 5) ∨ (n = 6 ∨ n = 7) ∨ n = 8 ∨ n = 9 := by omega
  unfold D_spoilt d_spoilt
  rcases h with h | h | h | rfl | rfl
  · have e1 : decide ((n : Int) < 2) = true := decide_eq_true (by omega)
    have e : ∀ d, chk n d = sizeB d := fun d => by rcases h with rfl | rfl <;> rfl
    clear h hn
    walk_at "e*"
    with_reducible refine wE_mon (no_size_s hs) ?_
    rintro _ ⟨d, s5, hd, hd2, hs5, rfl⟩
    walk_at "e"
    exact ⟨_, _, hd, (e _).trans hd2, hs5, rfl⟩
  · have e1 : decide ((n : Int) < 2) = false := decide_eq_false (by omega)
    have e2 : decide ((n : Int) < 6) = true := decide_eq_true (by omega)
    have e : ∀ d, chk n d = boundB d := fun d => by rcases h with rfl | rfl | rfl | rfl <;> rfl
    clear h hn
    walk_at "e*"
    with_reducible refine wE_mon (no_count_s hs) ?_
    rintro _ ⟨d, s5, hd, hd2, _, hs5, rfl⟩
    walk_at "e"
    exact ⟨_, _, hd, (e _).trans (bound_no hd2), hs5, rfl⟩
  · have e1 : decide ((n : Int) < 2) = false := decide_eq_false (by omega)
    have e2 : decide ((n : Int) < 6) = false := decide_eq_false (by omega)
    have e3 : decide ((n : Int) < 8) = true := decide_eq_true (by omega)
    have e : ∀ d, chk n d = cnt d := fun d => by rcases h with rfl | rfl <;> rfl
    clear h hn
    walk_at "e*"
    with_reducible refine wE_mon (no_count_s hs) ?_
    rintro _ ⟨d, s5, hd, hd2, _, hs5, rfl⟩
    walk_at "e"
    with_reducible refine wE_mon (next_s hs5 (by decide) (by decide)) ?_
    rintro _ ⟨q, s6, q0, q1, hs6, rfl⟩
    have gb : ∀ b : Bool, gIntC [.bl b] = some (.frz (.int (if b then 1 else 0))) := fun _ => rfl
    walk_at "e"
    simp only [gb]
    cases decide (q = 0)
    · walk_at "e"
      exact ⟨_, _, hd, (e _).trans (cnt_of hd2).1, hs6, rfl⟩
    · walk_at "e"
      exact ⟨_, _, okT_n, (e _).trans rfl, hs6, rfl⟩
  · walk_at "e"
    with_reducible refine wE_mon (no_rims_s hs) ?_
    rintro _ ⟨d, s5, hd, hd2, hs5, rfl⟩
    walk_at "e"
    exact ⟨_, _, hd, hd2, hs5, rfl⟩
  · walk_at "e"
    with_reducible refine wE_mon (no_stand_s hs) ?_
    rintro _ ⟨d, s5, hd, hd2, hs5, rfl⟩
    walk_at "e"
    exact ⟨_, _, hd, hd2, hs5, rfl⟩)

/-! Styles that are equal -/
theorem oneB_pl {ws : List Str} {d : D} (hw : ws.all PyData.strOk = true) (h : oneB ws d = true) : Pl 0 d := by
  cases d with
  | str s =>
    obtain ⟨w, hw2, e⟩ := List.any_eq_true.mp h
    have e : w = s := eq_of_beq e
    subst e
    exact Pl.str (List.all_eq_true.mp hw w hw2)
  | _ => cases h
theorem cnt_pl {d : D} (h : cnt d = true) : Pl 0 d := by
  cases d with
  | int i => exact Pl.int
  | _ => cases h
theorem isInt_pl {d : D} (h : isInt d = true) : Pl 0 d := by
  cases d with
  | int i => exact Pl.int
  | _ => cases h
theorem letters_lt : ∀ c ∈ letters.cps.toList, c < 0x110000 := by decide +kernel
theorem name_pl {d : D} (h : nameB d = true) : Pl 0 d := by
  cases d with
  | str s =>
    refine Pl.str (strOk_iff.mpr fun c hc => ?_)
    have h : nameS s = true := h
    unfold nameS at h
    simp only [Bool.and_eq_true, List.all_eq_true, decide_eq_true_eq] at h
    exact letters_lt c (h.2 c hc)
  | _ => cases h
theorem part_pl {d : D} (h : partB d = true) : Pl 1 d := by
  unfold partB at h
  split at h
  · rename_i a b
    simp only [Bool.and_eq_true] at h
    refine Pl.tup fun x hx => ?_
    simp only [List.mem_cons, List.not_mem_nil, or_false] at hx
    rcases hx with rfl | rfl
    · exact oneB_pl (by decide +kernel) h.1
    · exact cnt_pl h.2
  · cases h
theorem tie_pl {d : D} (h : tieB d = true) : Pl 1 d := by
  unfold tieB at h
  split at h
  · rename_i a b c d
    simp only [Bool.and_eq_true] at h
    refine Pl.tup fun x hx => ?_
    simp only [List.mem_cons, List.not_mem_nil, or_false] at hx
    rcases hx with rfl | rfl | rfl | rfl
    · exact oneB_pl (by decide +kernel) h.1
    · exact name_pl h.2.1
    · exact oneB_pl (by decide +kernel) h.2.2.1
    · exact isInt_pl h.2.2.2
  · cases h
theorem rims_pl {d : D} (h : rimsB d = true) : Pl 1 d := by
  unfold rimsB at h
  split at h
  · rename_i a b c d
    simp only [Bool.and_eq_true] at h
    refine Pl.tup fun x hx => ?_
    simp only [List.mem_cons, List.not_mem_nil, or_false] at hx
    rcases hx with rfl | rfl | rfl | rfl
    · exact cnt_pl h.1
    · exact cnt_pl h.2.1
    · exact cnt_pl h.2.2.1
    · exact cnt_pl h.2.2.2
  · cases h
theorem isN_pl {d : D} (h : isN d = true) : Pl 0 d := by
  cases d with
  | non => exact Pl.non
  | _ => cases h
theorem bound_pl {d : D} (h : boundB d = true) : Pl 1 d := by
  unfold boundB at h
  rcases Bool.or_eq_true _ _ ▸ h with h | h
  · exact (isN_pl h).mono (by omega)
  · exact (cnt_pl h).mono (by omega)
theorem stand_pl {d : D} (h : standB d = true) : Pl 1 d := by
  unfold standB at h
  rcases Bool.or_eq_true _ _ ▸ h with h | h
  · exact (isN_pl h).mono (by omega)
  · exact (oneB_pl (by decide +kernel) h).mono (by omega)
theorem size_pl {d : D} (h : sizeB d = true) : Pl 1 d := by
  unfold sizeB at h
  simp only [Bool.or_eq_true] at h
  rcases h with h | h | h | h
  · exact (isN_pl h).mono (by omega)
  · exact (cnt_pl h).mono (by omega)
  · exact part_pl h
  · exact tie_pl h
def fieldsL : List D → List D
  | [w, h, a, b, c, d, g, s, r, t] => [.tup [.str (Str.ofString "wide"), w, .non], .tup [.str (Str.ofString "high"), h, .non], .tup [.str (Str.ofString "least_wide"), a, .non], .tup [.str (Str.ofString "least_high"), b, .non], .tup [.str (Str.ofString "most_wide"), c, .non], .tup [.str (Str.ofString "most_high"), d, .non], .tup [.str (Str.ofString "grow"), g, .int 0], .tup [.str (Str.ofString "shrink"), s, .int 1], .tup [.str (Str.ofString "rims"), r, .tup [.int 0, .int 0, .int 0, .int 0]], .tup [.str (Str.ofString "stand"), t, .non]]
  | _ => []
local macro_rules | `(tactic| walk_at "u1") => `(tactic| simp only [↓e_con, ↓e_name, ↓e_lift1, ↓e_lift2, ↓e_bool, ↓e_andT, ↓e_orT, ↓e_notT, ↓e_yes, ↓e_andV, ↓e_orV, ↓e_notV, ↓e_ifV, ↓e_argsNil, ↓e_argsCons, ↓e_lst, ↓e_tup, ↓e_callG, ↓e_call, ↓e_call0, ↓e_callK, ↓e_callB, ↓e_ixN, ↓e_peek2, ↓e_peekC, ↓e_partN, ↓e_part, ↓e_slice, ↓e_chain, ↓e_isT, ↓e_isE, ↓e_mut, ↓e_meth, ↓e_noDict, ↓e_attr, ↓e_lstRg, ↓e_new, ↓e_makeK, ↓e_next, ↓e_brk, ↓e_cont, ↓e_seq, ↓e_expr, ↓e_ret, ↓e_retN, ↓e_retName, ↓e_if, ↓e_set, ↓e_asg, ↓e_aug, ↓e_par, ↓e_raise, ↓e_for, ↓e_iterE, ↓e_iterG, ↓e_forNil, ↓e_setAt, ↓e_setIx, ↓e_comp, ↓e_lcNil, ↓e_body, ↓e_bodyB, ↓out_rt, ↓out_nx, ↓outB_rt, ↓outB_nx, ↓th_nx, ↓th_rt, ↓th_bk, ↓th_ct, ↓lo_nx, ↓lo_ct, ↓lo_bk, ↓lo_rt, ↓e_iterL, ↓e_orX, ↓e_vals, ↓e_split, ↓e_disp1, ↓e_repl, ↓e_join, ↓e_dget, ↓e_dgetT, ↓e_din, ↓e_dinN, ↓e_newDK, ↓e_newDT, ↓e_makeP, ↓e_makeQ, ↓e_sup, ↓e_isO, ↓e_isOT, ↓e_maxD, ↓e_itRev, ↓e_pop, ↓e_dput, ↓e_makeKX, ↓e_newX, ↓e_raiseE, ↓e_try, ↓e_callE, ↓e_isE, ↓e_bodyBX, ↓e_bodyE, oQ_s, fl_s, fl_n, fl_0, ob_o, pK_n, pK_c, pD_n, pD_c, lk_c, lk_n, str_inj, gEq_lit, str_beq, iQ_t, iQ_f, eQ_e, nm_f, nm_o, rn_f, rn_o, sl_s, bl_b, in_i, ls_l, l1_l, l2_l, e0_e, wR_okE, e_forCons, e_lcCons, tb_b, ex_e, nw_n, fz_f, wp_n, wp_c, fr_n, fr_c, fzE_o, fzE_f, fzE_b, fzE_n, le_n, le_c, ld_o, ld_f, ld_b, ld_n, ba_n, ba_c, bk_o, bk_b, bk_f, bk_n, co_s, pk_n, pk_a, pk_b, pk_c, en_0, en_B, tg_n, tg_t, tg_l, tg_0, tg_c, gLen_l, gLen_t, gIs_n, isN_n, isN_b, isN_i, isN_s, isN_l, isN_t, isN_o, isN_dK, isN_dT, it_l, it_t, it_s, gIn_sg, at_o, gT_l, gT_t, gL_l, gL_t, gIsi_e, gIsi1_e, ia_n, ia_t, ia_f, gAdd_ll, gAdd_tt, gApp_if, gNeg_i, gAdd_int, gSub_int, gLt_int, gLe_int, gGt_int, gGe_int, gEq_int, gAll_e, gAny_e, gSum_e, bo_n, bo_c, io_n, io_c, bools_mapE, ints_mapE, all_mid, any_mid, lim_e, dFrz, dOwn, dBor, pOwn, pBor, Sl.mut, Sl.val, Sl.d, Sl.put, isL, ib_non_int, ib_non_bool, ib_non_str, ib_non_list, ib_non_tuple, ib_non_dict, ib_bl_int, ib_bl_bool, ib_bl_str, ib_bl_list, ib_bl_tuple, ib_bl_dict, ib_int_int, ib_int_bool, ib_int_str, ib_int_list, ib_int_tuple, ib_int_dict, ib_str_int, ib_str_bool, ib_str_str, ib_str_list, ib_str_tuple, ib_str_dict, ib_lst_int, ib_lst_bool, ib_lst_str, ib_lst_list, ib_lst_tuple, ib_lst_dict, ib_tup_int, ib_tup_bool, ib_tup_str, ib_tup_list, ib_tup_tuple, ib_tup_dict, ib_dK_int, ib_dK_bool, ib_dK_str, ib_dK_list, ib_dK_tuple, ib_dK_dict, ib_dT_int, ib_dT_bool, ib_dT_str, ib_dT_list, ib_dT_tuple, ib_dT_dict, ib_scr_int, ib_scr_bool, ib_scr_str, ib_scr_list, ib_scr_tuple, ib_scr_dict, gIx_t0, gIx_t1, gIx_t2, gIx_t3, gIx_t4, gIx_t5, gIx_t6, gIx_t7, gIx_t8, gIx_t9, gIx_l0, gIx_l1, gIx_l2, gIx_l3, gIx_l4, gIx_l5, gIx_l6, gIx_l7, gIx_l8, gIx_l9, gIx_lm, gMod_if, gDiv_if, gMul_if, gPow_10_3, gPow_10_4, gPow_10_5, gPow_10_6, gPow_10_9, gPow_10_10, gPow_10_11, gPow_10_12, gPow_10_18, gMul_fi, gMul_md, ixN_0, ixN_1, ixN_2, ixN_3, ixN_4, ixN_5, ixN_6, ixN_7, ixN_8, ixN_9, tru_n, tru_i, tru_b, bne_self_eq_false, va_k, strQ_s, ls2_t, ls2_l, isO_o, isO_n, isO_b, isO_i, isO_s, isO_l, isO_t, isO_k, isOA_n, isOA_c, key_i, key_s, keys_n, keys_c, dget_K, dget_T, din_K, val_n, val_c, gMulX_i, gMulX_l, bx_f, bx_t, dk_k, gTuple_l, Option.isSome_some, Option.isSome_none, gIsiO_n, gIsiO_b, gIsiO_i, gIsiO_s, gIsiO_l, gIsiO_t, gIsiO_k, ne_s, ne_z, ne_n, ix_f, ix_o, ix_b, ix_x, tN_n, tN_r, tT_n, tT_r, List.getElem?_cons_zero, List.getElem?_cons_succ, List.getElem?_nil, List.set_cons_zero, List.set_cons_succ, List.map_cons, List.map_nil, List.length_cons, List.length_nil, List.replicate, List.cons_append, List.nil_append, Nat.reduceAdd, Nat.reduceSub, Nat.reduceEqDiff, Option.map_some, Option.map_none, Option.bind_some, if_true, if_false, decide_true, decide_false, Bool.not_true, Bool.not_false, Bool.and_true, Bool.true_and, Bool.and_false, Bool.false_and, Bool.or_true, Bool.true_or, Bool.or_false, Bool.false_or, Int.reduceLT, String.reduceEq, Int.reduceLE, Int.reduceEq, Int.reduceAdd, Int.reduceSub, Int.reduceNeg, Int.reduceMul, Int.reduceDiv, Int.reduceMod, Int.cast_ofNat_Int, Int.natCast_zero, Int.toNat_natCast, Int.reduceToNat, Bool.bne_false, Bool.bne_true, Bool.false_bne, Bool.true_bne, reduceIte, reduceCtorEq, ite_true, ite_false, Bool.false_eq_true, List.zip_cons_cons, List.zip_nil_right, List.getD_cons_zero, List.getD_cons_succ, true_and, and_true, and_self, Nat.reduceLT, Nat.reduceLeDiff, List.all_cons, List.all_nil, List.any_cons, List.any_nil, id_eq, er_e, names, at_wide, at_high, at_least_wide, at_least_high, at_most_wide, at_most_high, at_grow, at_shrink, at_rims, at_stand, df_Style])
local macro_rules | `(tactic| walk_at "u1*") => `(tactic| simp only [↓e_con, ↓e_name, ↓e_lift1, ↓e_lift2, ↓e_bool, ↓e_andT, ↓e_orT, ↓e_notT, ↓e_yes, ↓e_andV, ↓e_orV, ↓e_notV, ↓e_ifV, ↓e_argsNil, ↓e_argsCons, ↓e_lst, ↓e_tup, ↓e_callG, ↓e_call, ↓e_call0, ↓e_callK, ↓e_callB, ↓e_ixN, ↓e_peek2, ↓e_peekC, ↓e_partN, ↓e_part, ↓e_slice, ↓e_chain, ↓e_isT, ↓e_isE, ↓e_mut, ↓e_meth, ↓e_noDict, ↓e_attr, ↓e_lstRg, ↓e_new, ↓e_makeK, ↓e_next, ↓e_brk, ↓e_cont, ↓e_seq, ↓e_expr, ↓e_ret, ↓e_retN, ↓e_retName, ↓e_if, ↓e_set, ↓e_asg, ↓e_aug, ↓e_par, ↓e_raise, ↓e_for, ↓e_iterE, ↓e_iterG, ↓e_forNil, ↓e_setAt, ↓e_setIx, ↓e_comp, ↓e_lcNil, ↓e_body, ↓e_bodyB, ↓out_rt, ↓out_nx, ↓outB_rt, ↓outB_nx, ↓th_nx, ↓th_rt, ↓th_bk, ↓th_ct, ↓lo_nx, ↓lo_ct, ↓lo_bk, ↓lo_rt, ↓e_iterL, ↓e_orX, ↓e_vals, ↓e_split, ↓e_disp1, ↓e_repl, ↓e_join, ↓e_dget, ↓e_dgetT, ↓e_din, ↓e_dinN, ↓e_newDK, ↓e_newDT, ↓e_makeP, ↓e_makeQ, ↓e_sup, ↓e_isO, ↓e_isOT, ↓e_maxD, ↓e_itRev, ↓e_pop, ↓e_dput, ↓e_makeKX, ↓e_newX, ↓e_raiseE, ↓e_try, ↓e_callE, ↓e_isE, ↓e_bodyBX, ↓e_bodyE, oQ_s, fl_s, fl_n, fl_0, ob_o, pK_n, pK_c, pD_n, pD_c, lk_c, lk_n, str_inj, gEq_lit, str_beq, iQ_t, iQ_f, eQ_e, nm_f, nm_o, rn_f, rn_o, sl_s, bl_b, in_i, ls_l, l1_l, l2_l, e0_e, wR_okE, e_forCons, e_lcCons, tb_b, ex_e, nw_n, fz_f, wp_n, wp_c, fr_n, fr_c, fzE_o, fzE_f, fzE_b, fzE_n, le_n, le_c, ld_o, ld_f, ld_b, ld_n, ba_n, ba_c, bk_o, bk_b, bk_f, bk_n, co_s, pk_n, pk_a, pk_b, pk_c, en_0, en_B, tg_n, tg_t, tg_l, tg_0, tg_c, gLen_l, gLen_t, gIs_n, isN_n, isN_b, isN_i, isN_s, isN_l, isN_t, isN_o, isN_dK, isN_dT, it_l, it_t, it_s, gIn_sg, at_o, gT_l, gT_t, gL_l, gL_t, gIsi_e, gIsi1_e, ia_n, ia_t, ia_f, gAdd_ll, gAdd_tt, gApp_if, gNeg_i, gAdd_int, gSub_int, gLt_int, gLe_int, gGt_int, gGe_int, gEq_int, gAll_e, gAny_e, gSum_e, bo_n, bo_c, io_n, io_c, bools_mapE, ints_mapE, all_mid, any_mid, lim_e, dFrz, dOwn, dBor, pOwn, pBor, Sl.mut, Sl.val, Sl.d, Sl.put, isL, ib_non_int, ib_non_bool, ib_non_str, ib_non_list, ib_non_tuple, ib_non_dict, ib_bl_int, ib_bl_bool, ib_bl_str, ib_bl_list, ib_bl_tuple, ib_bl_dict, ib_int_int, ib_int_bool, ib_int_str, ib_int_list, ib_int_tuple, ib_int_dict, ib_str_int, ib_str_bool, ib_str_str, ib_str_list, ib_str_tuple, ib_str_dict, ib_lst_int, ib_lst_bool, ib_lst_str, ib_lst_list, ib_lst_tuple, ib_lst_dict, ib_tup_int, ib_tup_bool, ib_tup_str, ib_tup_list, ib_tup_tuple, ib_tup_dict, ib_dK_int, ib_dK_bool, ib_dK_str, ib_dK_list, ib_dK_tuple, ib_dK_dict, ib_dT_int, ib_dT_bool, ib_dT_str, ib_dT_list, ib_dT_tuple, ib_dT_dict, ib_scr_int, ib_scr_bool, ib_scr_str, ib_scr_list, ib_scr_tuple, ib_scr_dict, gIx_t0, gIx_t1, gIx_t2, gIx_t3, gIx_t4, gIx_t5, gIx_t6, gIx_t7, gIx_t8, gIx_t9, gIx_l0, gIx_l1, gIx_l2, gIx_l3, gIx_l4, gIx_l5, gIx_l6, gIx_l7, gIx_l8, gIx_l9, gIx_lm, gMod_if, gDiv_if, gMul_if, gPow_10_3, gPow_10_4, gPow_10_5, gPow_10_6, gPow_10_9, gPow_10_10, gPow_10_11, gPow_10_12, gPow_10_18, gMul_fi, gMul_md, ixN_0, ixN_1, ixN_2, ixN_3, ixN_4, ixN_5, ixN_6, ixN_7, ixN_8, ixN_9, tru_n, tru_i, tru_b, bne_self_eq_false, va_k, strQ_s, ls2_t, ls2_l, isO_o, isO_n, isO_b, isO_i, isO_s, isO_l, isO_t, isO_k, isOA_n, isOA_c, key_i, key_s, keys_n, keys_c, dget_K, dget_T, din_K, val_n, val_c, gMulX_i, gMulX_l, bx_f, bx_t, dk_k, gTuple_l, Option.isSome_some, Option.isSome_none, gIsiO_n, gIsiO_b, gIsiO_i, gIsiO_s, gIsiO_l, gIsiO_t, gIsiO_k, ne_s, ne_z, ne_n, ix_f, ix_o, ix_b, ix_x, tN_n, tN_r, tT_n, tT_r, List.getElem?_cons_zero, List.getElem?_cons_succ, List.getElem?_nil, List.set_cons_zero, List.set_cons_succ, List.map_cons, List.map_nil, List.length_cons, List.length_nil, List.replicate, List.cons_append, List.nil_append, Nat.reduceAdd, Nat.reduceSub, Nat.reduceEqDiff, Option.map_some, Option.map_none, Option.bind_some, if_true, if_false, decide_true, decide_false, Bool.not_true, Bool.not_false, Bool.and_true, Bool.true_and, Bool.and_false, Bool.false_and, Bool.or_true, Bool.true_or, Bool.or_false, Bool.false_or, Int.reduceLT, String.reduceEq, Int.reduceLE, Int.reduceEq, Int.reduceAdd, Int.reduceSub, Int.reduceNeg, Int.reduceMul, Int.reduceDiv, Int.reduceMod, Int.cast_ofNat_Int, Int.natCast_zero, Int.toNat_natCast, Int.reduceToNat, Bool.bne_false, Bool.bne_true, Bool.false_bne, Bool.true_bne, reduceIte, reduceCtorEq, ite_true, ite_false, Bool.false_eq_true, List.zip_cons_cons, List.zip_nil_right, List.getD_cons_zero, List.getD_cons_succ, true_and, and_true, and_self, Nat.reduceLT, Nat.reduceLeDiff, List.all_cons, List.all_nil, List.any_cons, List.any_nil, id_eq, er_e, names, at_wide, at_high, at_least_wide, at_least_high, at_most_wide, at_most_high, at_grow, at_shrink, at_rims, at_stand, df_Style, *])
theorem fields_e {vs : List D} (h : vs.length = 10) : D_p_fields_of [.obj "Style" names vs] = .ok (.own (.lst (fieldsL vs)), []) := eq_of_wE (by
  obtain ⟨w, h, a, b, c, d, g, s, r, t, rfl⟩ := tenL h
  unfold D_p_fields_of d_p_fields_of
  walk_at "u1"
  rfl)
theorem fields_pl {vs : List D} (hl : vs.length = 10) (h : okAll vs = true) : plain (.lst (fieldsL vs)) = true := by
  have k := okAll_k h
  obtain ⟨w, h', a, b, c, d, g, s, r, t, rfl⟩ := tenL hl
  have k0 : Pl 1 w := size_pl (k 0 _ rfl)
  have k1 : Pl 1 h' := size_pl (k 1 _ rfl)
  have k2 : Pl 1 a := bound_pl (k 2 _ rfl)
  have k3 : Pl 1 b := bound_pl (k 3 _ rfl)
  have k4 : Pl 1 c := bound_pl (k 4 _ rfl)
  have k5 : Pl 1 d := bound_pl (k 5 _ rfl)
  have k6 : Pl 1 g := (cnt_pl (k 6 _ rfl)).mono (by omega)
  have k7 : Pl 1 s := (cnt_pl (k 7 _ rfl)).mono (by omega)
  have k8 : Pl 1 r := rims_pl (k 8 _ rfl)
  have k9 : Pl 1 t := stand_pl (k 9 _ rfl)
  have kr : Pl 1 (.tup [.int 0, .int 0, .int 0, .int 0]) := Pl.tup fun x hx => by
    simp only [List.mem_cons, List.not_mem_nil, or_false] at hx
    rcases hx with rfl | rfl | rfl | rfl <;> exact Pl.int
  have t3 : ∀ (x : Str) (a b : D), PyData.strOk x = true → Pl 1 a → Pl 1 b → Pl 2 (.tup [.str x, a, b]) := fun x a b h1 h2 h3 => Pl.tup fun y hy => by
    simp only [List.mem_cons, List.not_mem_nil, or_false] at hy
    rcases hy with rfl | rfl | rfl
    · exact (Pl.str (n := 1) h1)
    · exact h2
    · exact h3
  refine Pl.plain (n := 3) (Pl.lst fun x hx => ?_) (by decide)
  simp only [fieldsL, List.mem_cons, List.not_mem_nil, or_false] at hx
  rcases hx with rfl | rfl | rfl | rfl | rfl | rfl | rfl | rfl | rfl | rfl
  · exact t3 _ _ _ (strOk_lit _) k0 Pl.non
  · exact t3 _ _ _ (strOk_lit _) k1 Pl.non
  · exact t3 _ _ _ (strOk_lit _) k2 Pl.non
  · exact t3 _ _ _ (strOk_lit _) k3 Pl.non
  · exact t3 _ _ _ (strOk_lit _) k4 Pl.non
  · exact t3 _ _ _ (strOk_lit _) k5 Pl.non
  · exact t3 _ _ _ (strOk_lit _) k6 Pl.int
  · exact t3 _ _ _ (strOk_lit _) k7 Pl.int
  · exact t3 _ _ _ (strOk_lit _) k8 kr
  · exact t3 _ _ _ (strOk_lit _) k9 Pl.non
theorem ow_S : ow_Style "Style" = some true := by decide
theorem eq_e {vs : List D} (hl : vs.length = 10) (h : okAll vs = true) : D_Style_eq [.obj "Style" names vs, .obj "Style" names vs] = .ok (.frz (.bl true), []) := eq_of_wE (by
  have e1 := fields_e hl
  have e2 := gEq_self (neg := false) (fields_pl hl h)
  have e3 := ow_S
  clear h
  generalize fieldsL vs = l at *
  generalize hs : D.obj "Style" names vs = st at *
  unfold D_Style_eq d_Style_eq
  subst hs
  walk_at "e*")
theorem neO_of {c : Str} {g : DF} {k1 k2 : List Str} {d1 d2 l : List D} {r : Bool} (h : g [.obj c k1 d1, .obj c k2 d2] = .ok (.frz (.bl r), l)) : gNeO c g (.obj c k1 d1) (.obj c k2 d2) = some (.frz (.bl (!r))) := by
  show (if c = c ∧ c = c then _ else _) = _
  rw [if_pos ⟨rfl, rfl⟩, h]
theorem ne_e {vs : List D} (hl : vs.length = 10) (h : okAll vs = true) : gNeO "Style" D_Style_eq (.obj "Style" names vs) (.obj "Style" names vs) = some (.frz (.bl false)) := neO_of (eq_e hl h)
/-! made, or refused -/
theorem gSl5 {w h a b c d g s r t : D} : gSl (.lst [w, h, a, b, c, d, g, s, r, t]) none (some 5) = some (.own (.lst [w, h, a, b, c])) := rfl
theorem gSr5 {w h a b c d g s r t : D} : gSl (.lst [w, h, a, b, c, d, g, s, r, t]) (some 5) none = some (.own (.lst [d, g, s, r, t])) := rfl
local macro_rules | `(tactic| walk_at "u2") => `(tactic| simp only [↓e_con, ↓e_name, ↓e_lift1, ↓e_lift2, ↓e_bool, ↓e_andT, ↓e_orT, ↓e_notT, ↓e_yes, ↓e_andV, ↓e_orV, ↓e_notV, ↓e_ifV, ↓e_argsNil, ↓e_argsCons, ↓e_lst, ↓e_tup, ↓e_callG, ↓e_call, ↓e_call0, ↓e_callK, ↓e_callB, ↓e_ixN, ↓e_peek2, ↓e_peekC, ↓e_partN, ↓e_part, ↓e_slice, ↓e_chain, ↓e_isT, ↓e_isE, ↓e_mut, ↓e_meth, ↓e_noDict, ↓e_attr, ↓e_lstRg, ↓e_new, ↓e_makeK, ↓e_next, ↓e_brk, ↓e_cont, ↓e_seq, ↓e_expr, ↓e_ret, ↓e_retN, ↓e_retName, ↓e_if, ↓e_set, ↓e_asg, ↓e_aug, ↓e_par, ↓e_raise, ↓e_for, ↓e_iterE, ↓e_iterG, ↓e_forNil, ↓e_setAt, ↓e_setIx, ↓e_comp, ↓e_lcNil, ↓e_body, ↓e_bodyB, ↓out_rt, ↓out_nx, ↓outB_rt, ↓outB_nx, ↓th_nx, ↓th_rt, ↓th_bk, ↓th_ct, ↓lo_nx, ↓lo_ct, ↓lo_bk, ↓lo_rt, ↓e_iterL, ↓e_orX, ↓e_vals, ↓e_split, ↓e_disp1, ↓e_repl, ↓e_join, ↓e_dget, ↓e_dgetT, ↓e_din, ↓e_dinN, ↓e_newDK, ↓e_newDT, ↓e_makeP, ↓e_makeQ, ↓e_sup, ↓e_isO, ↓e_isOT, ↓e_maxD, ↓e_itRev, ↓e_pop, ↓e_dput, ↓e_makeKX, ↓e_newX, ↓e_raiseE, ↓e_try, ↓e_callE, ↓e_isE, ↓e_bodyBX, ↓e_bodyE, oQ_s, fl_s, fl_n, fl_0, ob_o, pK_n, pK_c, pD_n, pD_c, lk_c, lk_n, str_inj, gEq_lit, str_beq, iQ_t, iQ_f, eQ_e, nm_f, nm_o, rn_f, rn_o, sl_s, bl_b, in_i, ls_l, l1_l, l2_l, e0_e, wR_okE, e_forCons, e_lcCons, tb_b, ex_e, nw_n, fz_f, wp_n, wp_c, fr_n, fr_c, fzE_o, fzE_f, fzE_b, fzE_n, le_n, le_c, ld_o, ld_f, ld_b, ld_n, ba_n, ba_c, bk_o, bk_b, bk_f, bk_n, co_s, pk_n, pk_a, pk_b, pk_c, en_0, en_B, tg_n, tg_t, tg_l, tg_0, tg_c, gLen_l, gLen_t, gIs_n, isN_n, isN_b, isN_i, isN_s, isN_l, isN_t, isN_o, isN_dK, isN_dT, it_l, it_t, it_s, gIn_sg, at_o, gT_l, gT_t, gL_l, gL_t, gIsi_e, gIsi1_e, ia_n, ia_t, ia_f, gAdd_ll, gAdd_tt, gApp_if, gNeg_i, gAdd_int, gSub_int, gLt_int, gLe_int, gGt_int, gGe_int, gEq_int, gAll_e, gAny_e, gSum_e, bo_n, bo_c, io_n, io_c, bools_mapE, ints_mapE, all_mid, any_mid, lim_e, dFrz, dOwn, dBor, pOwn, pBor, Sl.mut, Sl.val, Sl.d, Sl.put, isL, ib_non_int, ib_non_bool, ib_non_str, ib_non_list, ib_non_tuple, ib_non_dict, ib_bl_int, ib_bl_bool, ib_bl_str, ib_bl_list, ib_bl_tuple, ib_bl_dict, ib_int_int, ib_int_bool, ib_int_str, ib_int_list, ib_int_tuple, ib_int_dict, ib_str_int, ib_str_bool, ib_str_str, ib_str_list, ib_str_tuple, ib_str_dict, ib_lst_int, ib_lst_bool, ib_lst_str, ib_lst_list, ib_lst_tuple, ib_lst_dict, ib_tup_int, ib_tup_bool, ib_tup_str, ib_tup_list, ib_tup_tuple, ib_tup_dict, ib_dK_int, ib_dK_bool, ib_dK_str, ib_dK_list, ib_dK_tuple, ib_dK_dict, ib_dT_int, ib_dT_bool, ib_dT_str, ib_dT_list, ib_dT_tuple, ib_dT_dict, ib_scr_int, ib_scr_bool, ib_scr_str, ib_scr_list, ib_scr_tuple, ib_scr_dict, gIx_t0, gIx_t1, gIx_t2, gIx_t3, gIx_t4, gIx_t5, gIx_t6, gIx_t7, gIx_t8, gIx_t9, gIx_l0, gIx_l1, gIx_l2, gIx_l3, gIx_l4, gIx_l5, gIx_l6, gIx_l7, gIx_l8, gIx_l9, gIx_lm, gMod_if, gDiv_if, gMul_if, gPow_10_3, gPow_10_4, gPow_10_5, gPow_10_6, gPow_10_9, gPow_10_10, gPow_10_11, gPow_10_12, gPow_10_18, gMul_fi, gMul_md, ixN_0, ixN_1, ixN_2, ixN_3, ixN_4, ixN_5, ixN_6, ixN_7, ixN_8, ixN_9, tru_n, tru_i, tru_b, bne_self_eq_false, va_k, strQ_s, ls2_t, ls2_l, isO_o, isO_n, isO_b, isO_i, isO_s, isO_l, isO_t, isO_k, isOA_n, isOA_c, key_i, key_s, keys_n, keys_c, dget_K, dget_T, din_K, val_n, val_c, gMulX_i, gMulX_l, bx_f, bx_t, dk_k, gTuple_l, Option.isSome_some, Option.isSome_none, gIsiO_n, gIsiO_b, gIsiO_i, gIsiO_s, gIsiO_l, gIsiO_t, gIsiO_k, ne_s, ne_z, ne_n, ix_f, ix_o, ix_b, ix_x, tN_n, tN_r, tT_n, tT_r, List.getElem?_cons_zero, List.getElem?_cons_succ, List.getElem?_nil, List.set_cons_zero, List.set_cons_succ, List.map_cons, List.map_nil, List.length_cons, List.length_nil, List.replicate, List.cons_append, List.nil_append, Nat.reduceAdd, Nat.reduceSub, Nat.reduceEqDiff, Option.map_some, Option.map_none, Option.bind_some, if_true, if_false, decide_true, decide_false, Bool.not_true, Bool.not_false, Bool.and_true, Bool.true_and, Bool.and_false, Bool.false_and, Bool.or_true, Bool.true_or, Bool.or_false, Bool.false_or, Int.reduceLT, String.reduceEq, Int.reduceLE, Int.reduceEq, Int.reduceAdd, Int.reduceSub, Int.reduceNeg, Int.reduceMul, Int.reduceDiv, Int.reduceMod, Int.cast_ofNat_Int, Int.natCast_zero, Int.toNat_natCast, Int.reduceToNat, Bool.bne_false, Bool.bne_true, Bool.false_bne, Bool.true_bne, reduceIte, reduceCtorEq, ite_true, ite_false, Bool.false_eq_true, List.zip_cons_cons, List.zip_nil_right, List.getD_cons_zero, List.getD_cons_succ, true_and, and_true, and_self, Nat.reduceLT, Nat.reduceLeDiff, List.all_cons, List.all_nil, List.any_cons, List.any_nil, id_eq, er_e, gSl5, gSr5, df_Style])
local macro_rules | `(tactic| walk_at "u2*") => `(tactic| simp only [↓e_con, ↓e_name, ↓e_lift1, ↓e_lift2, ↓e_bool, ↓e_andT, ↓e_orT, ↓e_notT, ↓e_yes, ↓e_andV, ↓e_orV, ↓e_notV, ↓e_ifV, ↓e_argsNil, ↓e_argsCons, ↓e_lst, ↓e_tup, ↓e_callG, ↓e_call, ↓e_call0, ↓e_callK, ↓e_callB, ↓e_ixN, ↓e_peek2, ↓e_peekC, ↓e_partN, ↓e_part, ↓e_slice, ↓e_chain, ↓e_isT, ↓e_isE, ↓e_mut, ↓e_meth, ↓e_noDict, ↓e_attr, ↓e_lstRg, ↓e_new, ↓e_makeK, ↓e_next, ↓e_brk, ↓e_cont, ↓e_seq, ↓e_expr, ↓e_ret, ↓e_retN, ↓e_retName, ↓e_if, ↓e_set, ↓e_asg, ↓e_aug, ↓e_par, ↓e_raise, ↓e_for, ↓e_iterE, ↓e_iterG, ↓e_forNil, ↓e_setAt, ↓e_setIx, ↓e_comp, ↓e_lcNil, ↓e_body, ↓e_bodyB, ↓out_rt, ↓out_nx, ↓outB_rt, ↓outB_nx, ↓th_nx, ↓th_rt, ↓th_bk, ↓th_ct, ↓lo_nx, ↓lo_ct, ↓lo_bk, ↓lo_rt, ↓e_iterL, ↓e_orX, ↓e_vals, ↓e_split, ↓e_disp1, ↓e_repl, ↓e_join, ↓e_dget, ↓e_dgetT, ↓e_din, ↓e_dinN, ↓e_newDK, ↓e_newDT, ↓e_makeP, ↓e_makeQ, ↓e_sup, ↓e_isO, ↓e_isOT, ↓e_maxD, ↓e_itRev, ↓e_pop, ↓e_dput, ↓e_makeKX, ↓e_newX, ↓e_raiseE, ↓e_try, ↓e_callE, ↓e_isE, ↓e_bodyBX, ↓e_bodyE, oQ_s, fl_s, fl_n, fl_0, ob_o, pK_n, pK_c, pD_n, pD_c, lk_c, lk_n, str_inj, gEq_lit, str_beq, iQ_t, iQ_f, eQ_e, nm_f, nm_o, rn_f, rn_o, sl_s, bl_b, in_i, ls_l, l1_l, l2_l, e0_e, wR_okE, e_forCons, e_lcCons, tb_b, ex_e, nw_n, fz_f, wp_n, wp_c, fr_n, fr_c, fzE_o, fzE_f, fzE_b, fzE_n, le_n, le_c, ld_o, ld_f, ld_b, ld_n, ba_n, ba_c, bk_o, bk_b, bk_f, bk_n, co_s, pk_n, pk_a, pk_b, pk_c, en_0, en_B, tg_n, tg_t, tg_l, tg_0, tg_c, gLen_l, gLen_t, gIs_n, isN_n, isN_b, isN_i, isN_s, isN_l, isN_t, isN_o, isN_dK, isN_dT, it_l, it_t, it_s, gIn_sg, at_o, gT_l, gT_t, gL_l, gL_t, gIsi_e, gIsi1_e, ia_n, ia_t, ia_f, gAdd_ll, gAdd_tt, gApp_if, gNeg_i, gAdd_int, gSub_int, gLt_int, gLe_int, gGt_int, gGe_int, gEq_int, gAll_e, gAny_e, gSum_e, bo_n, bo_c, io_n, io_c, bools_mapE, ints_mapE, all_mid, any_mid, lim_e, dFrz, dOwn, dBor, pOwn, pBor, Sl.mut, Sl.val, Sl.d, Sl.put, isL, ib_non_int, ib_non_bool, ib_non_str, ib_non_list, ib_non_tuple, ib_non_dict, ib_bl_int, ib_bl_bool, ib_bl_str, ib_bl_list, ib_bl_tuple, ib_bl_dict, ib_int_int, ib_int_bool, ib_int_str, ib_int_list, ib_int_tuple, ib_int_dict, ib_str_int, ib_str_bool, ib_str_str, ib_str_list, ib_str_tuple, ib_str_dict, ib_lst_int, ib_lst_bool, ib_lst_str, ib_lst_list, ib_lst_tuple, ib_lst_dict, ib_tup_int, ib_tup_bool, ib_tup_str, ib_tup_list, ib_tup_tuple, ib_tup_dict, ib_dK_int, ib_dK_bool, ib_dK_str, ib_dK_list, ib_dK_tuple, ib_dK_dict, ib_dT_int, ib_dT_bool, ib_dT_str, ib_dT_list, ib_dT_tuple, ib_dT_dict, ib_scr_int, ib_scr_bool, ib_scr_str, ib_scr_list, ib_scr_tuple, ib_scr_dict, gIx_t0, gIx_t1, gIx_t2, gIx_t3, gIx_t4, gIx_t5, gIx_t6, gIx_t7, gIx_t8, gIx_t9, gIx_l0, gIx_l1, gIx_l2, gIx_l3, gIx_l4, gIx_l5, gIx_l6, gIx_l7, gIx_l8, gIx_l9, gIx_lm, gMod_if, gDiv_if, gMul_if, gPow_10_3, gPow_10_4, gPow_10_5, gPow_10_6, gPow_10_9, gPow_10_10, gPow_10_11, gPow_10_12, gPow_10_18, gMul_fi, gMul_md, ixN_0, ixN_1, ixN_2, ixN_3, ixN_4, ixN_5, ixN_6, ixN_7, ixN_8, ixN_9, tru_n, tru_i, tru_b, bne_self_eq_false, va_k, strQ_s, ls2_t, ls2_l, isO_o, isO_n, isO_b, isO_i, isO_s, isO_l, isO_t, isO_k, isOA_n, isOA_c, key_i, key_s, keys_n, keys_c, dget_K, dget_T, din_K, val_n, val_c, gMulX_i, gMulX_l, bx_f, bx_t, dk_k, gTuple_l, Option.isSome_some, Option.isSome_none, gIsiO_n, gIsiO_b, gIsiO_i, gIsiO_s, gIsiO_l, gIsiO_t, gIsiO_k, ne_s, ne_z, ne_n, ix_f, ix_o, ix_b, ix_x, tN_n, tN_r, tT_n, tT_r, List.getElem?_cons_zero, List.getElem?_cons_succ, List.getElem?_nil, List.set_cons_zero, List.set_cons_succ, List.map_cons, List.map_nil, List.length_cons, List.length_nil, List.replicate, List.cons_append, List.nil_append, Nat.reduceAdd, Nat.reduceSub, Nat.reduceEqDiff, Option.map_some, Option.map_none, Option.bind_some, if_true, if_false, decide_true, decide_false, Bool.not_true, Bool.not_false, Bool.and_true, Bool.true_and, Bool.and_false, Bool.false_and, Bool.or_true, Bool.true_or, Bool.or_false, Bool.false_or, Int.reduceLT, String.reduceEq, Int.reduceLE, Int.reduceEq, Int.reduceAdd, Int.reduceSub, Int.reduceNeg, Int.reduceMul, Int.reduceDiv, Int.reduceMod, Int.cast_ofNat_Int, Int.natCast_zero, Int.toNat_natCast, Int.reduceToNat, Bool.bne_false, Bool.bne_true, Bool.false_bne, Bool.true_bne, reduceIte, reduceCtorEq, ite_true, ite_false, Bool.false_eq_true, List.zip_cons_cons, List.zip_nil_right, List.getD_cons_zero, List.getD_cons_succ, true_and, and_true, and_self, Nat.reduceLT, Nat.reduceLeDiff, List.all_cons, List.all_nil, List.any_cons, List.any_nil, id_eq, er_e, gSl5, gSr5, df_Style, *])
theorem all_ok {vs : List D} (h : okData vs) (hv : okAll vs = true) : D_all [.lst vs] = .ok (.own (.obj "Style" names vs), []) := eq_of_wE (by
  have e := init_ok h hv
  obtain ⟨hl, _⟩ := h
  obtain ⟨w, h, a, b, c, d, g, s, r, t, rfl⟩ := tenL hl
  clear hv hl
  unfold D_all d_all
  walk_at "u2*")
theorem allX_ok {vs : List D} (h : okData vs) (hv : okAll vs = true) : DX_all [.lst vs] = .ok (.own (.obj "Style" names vs), []) := eq_of_wE (by
  have e := initX_ok h hv
  obtain ⟨hl, _⟩ := h
  obtain ⟨w, h, a, b, c, d, g, s, r, t, rfl⟩ := tenL hl
  clear hv hl
  unfold DX_all dX_all
  walk_at "u2*")
theorem allX_no {vs : List D} (h : okData vs) (hv : okAll vs = false) : DX_all [.lst vs] = .er "NoStyle" [] [] := er_of (wE_in (by
  have e := initX_no h hv
  obtain ⟨hl, _⟩ := h
  obtain ⟨w, h, a, b, c, d, g, s, r, t, rfl⟩ := tenL hl
  clear hv hl
  unfold DX_all dX_all
  walk_at "u2*"))
theorem set_self' {l : List D} {i : Nat} {v d : D} (h : (l.set i v)[i]? = some d) : d = v := by
  rw [List.getElem?_set] at h
  simp only [if_true] at h
  split at h
  · cases h; rfl
  · cases h
theorem set_data {vs : List D} {i : Nat} {v : D} (h : okData vs) (hv : okT v) : okData (vs.set i v) := by
  refine ⟨by rw [List.length_set]; exact h.1, fun d hd => ?_⟩
  rcases List.mem_or_eq_of_mem_set hd with hd | rfl
  · exact h.2 d hd
  · exact hv
theorem df_set {i : Nat} {v : D} (hi : i < 10) : okAll (df_Style.set i v) = chk i v := by
  cases e : chk i v with
  | true =>
    refine okAll_of (by rw [List.length_set]; rfl) fun j d hj => ?_
    by_cases q : i = j
    · subst q
      rw [set_self' hj]
      exact e
    · rw [List.getElem?_set_ne q] at hj
      exact okAll_k df_all j d hj
  | false => exact okAll_no (i := i) (d := v) (by rw [List.getElem?_set_self (by exact hi)]) e
theorem alone_ok {i : Nat} {v : D} (hi : i < 10) (h : okT v) (hv : chk i v = true) : D_alone [.int (i : Int), v] = .ok (.own (.obj "Style" names (df_Style.set i v)), []) := eq_of_wE (by
  have e := initX_ok (set_data (i := i) df_data h) (by rw [df_set hi]; exact hv)
  have hi : i = 0 ∨ i = 1 ∨ i = 2 ∨ i = 3 ∨ i = 4 ∨ i = 5 ∨ i = 6 ∨ i = 7 ∨ i = 8 ∨ i = 9 := by omega
  clear h hv
  unfold D_alone d_alone
  rcases hi with rfl | rfl | rfl | rfl | rfl | rfl | rfl | rfl | rfl | rfl <;> simp only [df_Style, List.set_cons_zero, List.set_cons_succ] at e <;> walk_at "u2*")
theorem alone_no {i : Nat} {v : D} (hi : i < 10) (h : okT v) (hv : chk i v = false) : D_alone [.int (i : Int), v] = .er "NoStyle" [] [] := er_of (wE_in (by
  have e := initX_no (set_data (i := i) df_data h) (by rw [df_set hi]; exact hv)
  have hi : i = 0 ∨ i = 1 ∨ i = 2 ∨ i = 3 ∨ i = 4 ∨ i = 5 ∨ i = 6 ∨ i = 7 ∨ i = 8 ∨ i = 9 := by omega
  clear h hv
  unfold D_alone d_alone
  rcases hi with rfl | rfl | rfl | rfl | rfl | rfl | rfl | rfl | rfl | rfl <;> simp only [df_Style, List.set_cons_zero, List.set_cons_succ] at e <;> walk_at "u2*"))

theorem sb1 : sub_NoName "NoStyle" = some false := by decide
theorem sb2 : sub_NoNumber "NoStyle" = some false := by decide
theorem sb3 : sub_NoText "NoStyle" = some false := by decide
theorem sb4 : sub_NoBox "NoStyle" = some false := by decide
theorem sb5 : sub_NoStand "NoStyle" = some false := by decide
theorem sb6 : sub_NoTree "NoStyle" = some false := by decide
theorem sb7 : sub_NoTruth "NoStyle" = some false := by decide
theorem sb8 : sub_NoRow "NoStyle" = some false := by decide
theorem sb9 : sub_NoStyle "NoStyle" = some true := by decide
theorem sba : sub_ValueError "NoStyle" = some true := by decide
theorem clN : cl_NestError "NoStyle" = true := by decide
local macro_rules | `(tactic| walk_at "u3") => `(tactic| simp only [↓e_con, ↓e_name, ↓e_lift1, ↓e_lift2, ↓e_bool, ↓e_andT, ↓e_orT, ↓e_notT, ↓e_yes, ↓e_andV, ↓e_orV, ↓e_notV, ↓e_ifV, ↓e_argsNil, ↓e_argsCons, ↓e_lst, ↓e_tup, ↓e_callG, ↓e_call, ↓e_call0, ↓e_callK, ↓e_callB, ↓e_ixN, ↓e_peek2, ↓e_peekC, ↓e_partN, ↓e_part, ↓e_slice, ↓e_chain, ↓e_isT, ↓e_isE, ↓e_mut, ↓e_meth, ↓e_noDict, ↓e_attr, ↓e_lstRg, ↓e_new, ↓e_makeK, ↓e_next, ↓e_brk, ↓e_cont, ↓e_seq, ↓e_expr, ↓e_ret, ↓e_retN, ↓e_retName, ↓e_if, ↓e_set, ↓e_asg, ↓e_aug, ↓e_par, ↓e_raise, ↓e_for, ↓e_iterE, ↓e_iterG, ↓e_forNil, ↓e_setAt, ↓e_setIx, ↓e_comp, ↓e_lcNil, ↓e_body, ↓e_bodyB, ↓out_rt, ↓out_nx, ↓outB_rt, ↓outB_nx, ↓th_nx, ↓th_rt, ↓th_bk, ↓th_ct, ↓lo_nx, ↓lo_ct, ↓lo_bk, ↓lo_rt, ↓e_iterL, ↓e_orX, ↓e_vals, ↓e_split, ↓e_disp1, ↓e_repl, ↓e_join, ↓e_dget, ↓e_dgetT, ↓e_din, ↓e_dinN, ↓e_newDK, ↓e_newDT, ↓e_makeP, ↓e_makeQ, ↓e_sup, ↓e_isO, ↓e_isOT, ↓e_maxD, ↓e_itRev, ↓e_pop, ↓e_dput, ↓e_makeKX, ↓e_newX, ↓e_raiseE, ↓e_try, ↓e_callE, ↓e_isE, ↓e_bodyBX, ↓e_bodyE, oQ_s, fl_s, fl_n, fl_0, ob_o, pK_n, pK_c, pD_n, pD_c, lk_c, lk_n, str_inj, gEq_lit, str_beq, iQ_t, iQ_f, eQ_e, nm_f, nm_o, rn_f, rn_o, sl_s, bl_b, in_i, ls_l, l1_l, l2_l, e0_e, wR_okE, e_forCons, e_lcCons, tb_b, ex_e, nw_n, fz_f, wp_n, wp_c, fr_n, fr_c, fzE_o, fzE_f, fzE_b, fzE_n, le_n, le_c, ld_o, ld_f, ld_b, ld_n, ba_n, ba_c, bk_o, bk_b, bk_f, bk_n, co_s, pk_n, pk_a, pk_b, pk_c, en_0, en_B, tg_n, tg_t, tg_l, tg_0, tg_c, gLen_l, gLen_t, gIs_n, isN_n, isN_b, isN_i, isN_s, isN_l, isN_t, isN_o, isN_dK, isN_dT, it_l, it_t, it_s, gIn_sg, at_o, gT_l, gT_t, gL_l, gL_t, gIsi_e, gIsi1_e, ia_n, ia_t, ia_f, gAdd_ll, gAdd_tt, gApp_if, gNeg_i, gAdd_int, gSub_int, gLt_int, gLe_int, gGt_int, gGe_int, gEq_int, gAll_e, gAny_e, gSum_e, bo_n, bo_c, io_n, io_c, bools_mapE, ints_mapE, all_mid, any_mid, lim_e, dFrz, dOwn, dBor, pOwn, pBor, Sl.mut, Sl.val, Sl.d, Sl.put, isL, ib_non_int, ib_non_bool, ib_non_str, ib_non_list, ib_non_tuple, ib_non_dict, ib_bl_int, ib_bl_bool, ib_bl_str, ib_bl_list, ib_bl_tuple, ib_bl_dict, ib_int_int, ib_int_bool, ib_int_str, ib_int_list, ib_int_tuple, ib_int_dict, ib_str_int, ib_str_bool, ib_str_str, ib_str_list, ib_str_tuple, ib_str_dict, ib_lst_int, ib_lst_bool, ib_lst_str, ib_lst_list, ib_lst_tuple, ib_lst_dict, ib_tup_int, ib_tup_bool, ib_tup_str, ib_tup_list, ib_tup_tuple, ib_tup_dict, ib_dK_int, ib_dK_bool, ib_dK_str, ib_dK_list, ib_dK_tuple, ib_dK_dict, ib_dT_int, ib_dT_bool, ib_dT_str, ib_dT_list, ib_dT_tuple, ib_dT_dict, ib_scr_int, ib_scr_bool, ib_scr_str, ib_scr_list, ib_scr_tuple, ib_scr_dict, gIx_t0, gIx_t1, gIx_t2, gIx_t3, gIx_t4, gIx_t5, gIx_t6, gIx_t7, gIx_t8, gIx_t9, gIx_l0, gIx_l1, gIx_l2, gIx_l3, gIx_l4, gIx_l5, gIx_l6, gIx_l7, gIx_l8, gIx_l9, gIx_lm, gMod_if, gDiv_if, gMul_if, gPow_10_3, gPow_10_4, gPow_10_5, gPow_10_6, gPow_10_9, gPow_10_10, gPow_10_11, gPow_10_12, gPow_10_18, gMul_fi, gMul_md, ixN_0, ixN_1, ixN_2, ixN_3, ixN_4, ixN_5, ixN_6, ixN_7, ixN_8, ixN_9, tru_n, tru_i, tru_b, bne_self_eq_false, va_k, strQ_s, ls2_t, ls2_l, isO_o, isO_n, isO_b, isO_i, isO_s, isO_l, isO_t, isO_k, isOA_n, isOA_c, key_i, key_s, keys_n, keys_c, dget_K, dget_T, din_K, val_n, val_c, gMulX_i, gMulX_l, bx_f, bx_t, dk_k, gTuple_l, Option.isSome_some, Option.isSome_none, gIsiO_n, gIsiO_b, gIsiO_i, gIsiO_s, gIsiO_l, gIsiO_t, gIsiO_k, ne_s, ne_z, ne_n, ix_f, ix_o, ix_b, ix_x, tN_n, tN_r, tT_n, tT_r, List.getElem?_cons_zero, List.getElem?_cons_succ, List.getElem?_nil, List.set_cons_zero, List.set_cons_succ, List.map_cons, List.map_nil, List.length_cons, List.length_nil, List.replicate, List.cons_append, List.nil_append, Nat.reduceAdd, Nat.reduceSub, Nat.reduceEqDiff, Option.map_some, Option.map_none, Option.bind_some, if_true, if_false, decide_true, decide_false, Bool.not_true, Bool.not_false, Bool.and_true, Bool.true_and, Bool.and_false, Bool.false_and, Bool.or_true, Bool.true_or, Bool.or_false, Bool.false_or, Int.reduceLT, String.reduceEq, Int.reduceLE, Int.reduceEq, Int.reduceAdd, Int.reduceSub, Int.reduceNeg, Int.reduceMul, Int.reduceDiv, Int.reduceMod, Int.cast_ofNat_Int, Int.natCast_zero, Int.toNat_natCast, Int.reduceToNat, Bool.bne_false, Bool.bne_true, Bool.false_bne, Bool.true_bne, reduceIte, reduceCtorEq, ite_true, ite_false, Bool.false_eq_true, List.zip_cons_cons, List.zip_nil_right, List.getD_cons_zero, List.getD_cons_succ, true_and, and_true, and_self, Nat.reduceLT, Nat.reduceLeDiff, List.all_cons, List.all_nil, List.any_cons, List.any_nil, id_eq, er_e, sb1, sb2, sb3, sb4, sb5, sb6, sb7, sb8, sb9, sba, clN])
local macro_rules | `(tactic| walk_at "u3*") => `(tactic| simp only [↓e_con, ↓e_name, ↓e_lift1, ↓e_lift2, ↓e_bool, ↓e_andT, ↓e_orT, ↓e_notT, ↓e_yes, ↓e_andV, ↓e_orV, ↓e_notV, ↓e_ifV, ↓e_argsNil, ↓e_argsCons, ↓e_lst, ↓e_tup, ↓e_callG, ↓e_call, ↓e_call0, ↓e_callK, ↓e_callB, ↓e_ixN, ↓e_peek2, ↓e_peekC, ↓e_partN, ↓e_part, ↓e_slice, ↓e_chain, ↓e_isT, ↓e_isE, ↓e_mut, ↓e_meth, ↓e_noDict, ↓e_attr, ↓e_lstRg, ↓e_new, ↓e_makeK, ↓e_next, ↓e_brk, ↓e_cont, ↓e_seq, ↓e_expr, ↓e_ret, ↓e_retN, ↓e_retName, ↓e_if, ↓e_set, ↓e_asg, ↓e_aug, ↓e_par, ↓e_raise, ↓e_for, ↓e_iterE, ↓e_iterG, ↓e_forNil, ↓e_setAt, ↓e_setIx, ↓e_comp, ↓e_lcNil, ↓e_body, ↓e_bodyB, ↓out_rt, ↓out_nx, ↓outB_rt, ↓outB_nx, ↓th_nx, ↓th_rt, ↓th_bk, ↓th_ct, ↓lo_nx, ↓lo_ct, ↓lo_bk, ↓lo_rt, ↓e_iterL, ↓e_orX, ↓e_vals, ↓e_split, ↓e_disp1, ↓e_repl, ↓e_join, ↓e_dget, ↓e_dgetT, ↓e_din, ↓e_dinN, ↓e_newDK, ↓e_newDT, ↓e_makeP, ↓e_makeQ, ↓e_sup, ↓e_isO, ↓e_isOT, ↓e_maxD, ↓e_itRev, ↓e_pop, ↓e_dput, ↓e_makeKX, ↓e_newX, ↓e_raiseE, ↓e_try, ↓e_callE, ↓e_isE, ↓e_bodyBX, ↓e_bodyE, oQ_s, fl_s, fl_n, fl_0, ob_o, pK_n, pK_c, pD_n, pD_c, lk_c, lk_n, str_inj, gEq_lit, str_beq, iQ_t, iQ_f, eQ_e, nm_f, nm_o, rn_f, rn_o, sl_s, bl_b, in_i, ls_l, l1_l, l2_l, e0_e, wR_okE, e_forCons, e_lcCons, tb_b, ex_e, nw_n, fz_f, wp_n, wp_c, fr_n, fr_c, fzE_o, fzE_f, fzE_b, fzE_n, le_n, le_c, ld_o, ld_f, ld_b, ld_n, ba_n, ba_c, bk_o, bk_b, bk_f, bk_n, co_s, pk_n, pk_a, pk_b, pk_c, en_0, en_B, tg_n, tg_t, tg_l, tg_0, tg_c, gLen_l, gLen_t, gIs_n, isN_n, isN_b, isN_i, isN_s, isN_l, isN_t, isN_o, isN_dK, isN_dT, it_l, it_t, it_s, gIn_sg, at_o, gT_l, gT_t, gL_l, gL_t, gIsi_e, gIsi1_e, ia_n, ia_t, ia_f, gAdd_ll, gAdd_tt, gApp_if, gNeg_i, gAdd_int, gSub_int, gLt_int, gLe_int, gGt_int, gGe_int, gEq_int, gAll_e, gAny_e, gSum_e, bo_n, bo_c, io_n, io_c, bools_mapE, ints_mapE, all_mid, any_mid, lim_e, dFrz, dOwn, dBor, pOwn, pBor, Sl.mut, Sl.val, Sl.d, Sl.put, isL, ib_non_int, ib_non_bool, ib_non_str, ib_non_list, ib_non_tuple, ib_non_dict, ib_bl_int, ib_bl_bool, ib_bl_str, ib_bl_list, ib_bl_tuple, ib_bl_dict, ib_int_int, ib_int_bool, ib_int_str, ib_int_list, ib_int_tuple, ib_int_dict, ib_str_int, ib_str_bool, ib_str_str, ib_str_list, ib_str_tuple, ib_str_dict, ib_lst_int, ib_lst_bool, ib_lst_str, ib_lst_list, ib_lst_tuple, ib_lst_dict, ib_tup_int, ib_tup_bool, ib_tup_str, ib_tup_list, ib_tup_tuple, ib_tup_dict, ib_dK_int, ib_dK_bool, ib_dK_str, ib_dK_list, ib_dK_tuple, ib_dK_dict, ib_dT_int, ib_dT_bool, ib_dT_str, ib_dT_list, ib_dT_tuple, ib_dT_dict, ib_scr_int, ib_scr_bool, ib_scr_str, ib_scr_list, ib_scr_tuple, ib_scr_dict, gIx_t0, gIx_t1, gIx_t2, gIx_t3, gIx_t4, gIx_t5, gIx_t6, gIx_t7, gIx_t8, gIx_t9, gIx_l0, gIx_l1, gIx_l2, gIx_l3, gIx_l4, gIx_l5, gIx_l6, gIx_l7, gIx_l8, gIx_l9, gIx_lm, gMod_if, gDiv_if, gMul_if, gPow_10_3, gPow_10_4, gPow_10_5, gPow_10_6, gPow_10_9, gPow_10_10, gPow_10_11, gPow_10_12, gPow_10_18, gMul_fi, gMul_md, ixN_0, ixN_1, ixN_2, ixN_3, ixN_4, ixN_5, ixN_6, ixN_7, ixN_8, ixN_9, tru_n, tru_i, tru_b, bne_self_eq_false, va_k, strQ_s, ls2_t, ls2_l, isO_o, isO_n, isO_b, isO_i, isO_s, isO_l, isO_t, isO_k, isOA_n, isOA_c, key_i, key_s, keys_n, keys_c, dget_K, dget_T, din_K, val_n, val_c, gMulX_i, gMulX_l, bx_f, bx_t, dk_k, gTuple_l, Option.isSome_some, Option.isSome_none, gIsiO_n, gIsiO_b, gIsiO_i, gIsiO_s, gIsiO_l, gIsiO_t, gIsiO_k, ne_s, ne_z, ne_n, ix_f, ix_o, ix_b, ix_x, tN_n, tN_r, tT_n, tT_r, List.getElem?_cons_zero, List.getElem?_cons_succ, List.getElem?_nil, List.set_cons_zero, List.set_cons_succ, List.map_cons, List.map_nil, List.length_cons, List.length_nil, List.replicate, List.cons_append, List.nil_append, Nat.reduceAdd, Nat.reduceSub, Nat.reduceEqDiff, Option.map_some, Option.map_none, Option.bind_some, if_true, if_false, decide_true, decide_false, Bool.not_true, Bool.not_false, Bool.and_true, Bool.true_and, Bool.and_false, Bool.false_and, Bool.or_true, Bool.true_or, Bool.or_false, Bool.false_or, Int.reduceLT, String.reduceEq, Int.reduceLE, Int.reduceEq, Int.reduceAdd, Int.reduceSub, Int.reduceNeg, Int.reduceMul, Int.reduceDiv, Int.reduceMod, Int.cast_ofNat_Int, Int.natCast_zero, Int.toNat_natCast, Int.reduceToNat, Bool.bne_false, Bool.bne_true, Bool.false_bne, Bool.true_bne, reduceIte, reduceCtorEq, ite_true, ite_false, Bool.false_eq_true, List.zip_cons_cons, List.zip_nil_right, List.getD_cons_zero, List.getD_cons_succ, true_and, and_true, and_self, Nat.reduceLT, Nat.reduceLeDiff, List.all_cons, List.all_nil, List.any_cons, List.any_nil, id_eq, er_e, sb1, sb2, sb3, sb4, sb5, sb6, sb7, sb8, sb9, sba, clN, *])
theorem only_e : D_only "NoStyle" = .ok (.frz (.bl true), []) := eq_of_wE (by
  unfold D_only d_only
  walk_at "u3")
theorem refused_n {vs : List D} (h : okData vs) : D_refused [.lst vs, .non] = .ok (.frz (.bl (!okAll vs)), []) := eq_of_wE (by
  have e1 := only_e
  unfold D_refused d_refused
  cases hv : okAll vs with
  | true =>
    have e := allX_ok h hv
    clear h hv
    walk_at "u3*"
  | false =>
    have e := allX_no h hv
    clear h hv
    walk_at "u3*")
theorem refused_i {vs : List D} {i : Nat} {v : D} (h : okData vs) (hv : vs[i]? = some v) : D_refused [.lst vs, .int (i : Int)] = .ok (.frz (.bl (!chk i v)), []) := eq_of_wE (by
  have e1 := only_e
  have e2 := gIx_p hv
  have hi : i < 10 := by rw [← h.1]; exact (List.getElem?_eq_some_iff.mp hv).1
  have ht : okT v := h.2 v (List.mem_of_getElem? hv)
  unfold D_refused d_refused
  cases hc : chk i v with
  | true =>
    have e := alone_ok hi ht hc
    clear h hv hi ht hc
    walk_at "u3*"
  | false =>
    have e := alone_no hi ht hc
    clear h hv hi ht hc
    walk_at "u3*")

/-! the law -/
theorem min_b {n : Nat} : ∃ m : Int, gMin2 [.int 12, .int (n : Int)] = some (.frz (.int m)) ∧ 0 ≤ m ∧ m ≤ 12 := ⟨_, rfl, by split <;> omega, by split <;> omega⟩
theorem max_b {m : Int} (h0 : 0 ≤ m) (h1 : m ≤ 12) : ∃ k : Int, gMax2 [.int 1, .int m] = some (.frz (.int k)) ∧ 0 ≤ k ∧ k ≤ 12 := ⟨_, rfl, by split <;> omega, by split <;> omega⟩
theorem cell_s {ns : List Int} {k : Int} (h0 : 0 ≤ k) : ∃ r, D_cell_at [.scr ns, .int k] = .ok (.frz (.int r), []) := by
  have h : wR (D_cell_at [.scr ns, .int k]) (fun p => ∃ r, p = (.frz (.int r), [])) fun _ _ => False := wE_in (by
    have hl : gLen [.scr ns] = some (.frz (.int ns.length)) := rfl
    unfold D_cell_at d_cell_at
    walk_at "e"
    simp only [hl]
    walk_at "e"
    with_reducible refine iQ_dec (fun h => ?_) (fun h => ?_)
    · obtain ⟨d, _, _, e⟩ := gIx_scr (ns := ns) h0 h
      walk_at "e"
      simp only [e]
      walk_at "e"
      exact ⟨_, rfl⟩
    · walk_at "e"
      exact ⟨_, rfl⟩)
  obtain ⟨_, e, r, rfl⟩ := h.ok
  exact ⟨r, e⟩
theorem source_e {r : Int} : D_source [.int r] = .ok (.own (srcD r r 0), []) := eq_of_wE (by
  unfold D_source d_source
  walk_at "e"
  rfl)
theorem gLen_c {ns : List Int} : gLen [.scr ns] = some (.frz (.int ns.length)) := rfl
theorem zipA_e {a b : List D} : gZipA [.lst a, .lst b] = some ((a.zip b).map fun p => .tup [p.1, p.2]) := rfl
theorem gR_1 : gR1 [.int 1] = some [.int 0] := rfl
theorem gR_2 : gR1 [.int 2] = some [.int 0, .int 1] := rfl
theorem gR_3 : gR1 [.int 3] = some [.int 0, .int 1, .int 2] := rfl
theorem ixN_k {i : Nat} (h : i < 10) : ixN 10 (i : Int) = some i := by
  unfold ixN
  rw [if_pos (by omega), if_pos (by omega), Int.toNat_natCast]
theorem chk_set {vs : List D} {i j : Nat} {x : D} (hl : vs.length = 10) (hi : i < 10) (hx : chk i x = false) (h : i = j ∨ ∃ v, vs[j]? = some v ∧ chk j v = false) : ∃ v, (vs.set i x)[j]? = some v ∧ chk j v = false := by
  by_cases e : i = j
  · subst e
    exact ⟨x, List.getElem?_set_self (by omega), hx⟩
  · rcases h with h | ⟨v, h1, h2⟩
    · exact absurd h e
    · exact ⟨v, by rw [List.getElem?_set_ne e]; exact h1, h2⟩
local macro_rules | `(tactic| walk_at "v1") => `(tactic| simp only [↓e_con, ↓e_name, ↓e_lift1, ↓e_lift2, ↓e_bool, ↓e_andT, ↓e_orT, ↓e_notT, ↓e_yes, ↓e_andV, ↓e_orV, ↓e_notV, ↓e_ifV, ↓e_argsNil, ↓e_argsCons, ↓e_lst, ↓e_tup, ↓e_callG, ↓e_call, ↓e_call0, ↓e_callK, ↓e_callB, ↓e_ixN, ↓e_peek2, ↓e_peekC, ↓e_partN, ↓e_part, ↓e_slice, ↓e_chain, ↓e_isT, ↓e_isE, ↓e_mut, ↓e_meth, ↓e_noDict, ↓e_attr, ↓e_lstRg, ↓e_new, ↓e_makeK, ↓e_next, ↓e_brk, ↓e_cont, ↓e_seq, ↓e_expr, ↓e_ret, ↓e_retN, ↓e_retName, ↓e_if, ↓e_set, ↓e_asg, ↓e_aug, ↓e_par, ↓e_raise, ↓e_for, ↓e_iterE, ↓e_iterG, ↓e_forNil, ↓e_setAt, ↓e_setIx, ↓e_comp, ↓e_lcNil, ↓e_body, ↓e_bodyB, ↓out_rt, ↓out_nx, ↓outB_rt, ↓outB_nx, ↓th_nx, ↓th_rt, ↓th_bk, ↓th_ct, ↓lo_nx, ↓lo_ct, ↓lo_bk, ↓lo_rt, ↓e_iterL, ↓e_orX, ↓e_vals, ↓e_split, ↓e_disp1, ↓e_repl, ↓e_join, ↓e_dget, ↓e_dgetT, ↓e_din, ↓e_dinN, ↓e_newDK, ↓e_newDT, ↓e_makeP, ↓e_makeQ, ↓e_sup, ↓e_isO, ↓e_isOT, ↓e_maxD, ↓e_itRev, ↓e_pop, ↓e_dput, ↓e_makeKX, ↓e_newX, ↓e_raiseE, ↓e_try, ↓e_callE, ↓e_isE, ↓e_bodyBX, ↓e_bodyE, oQ_s, fl_s, fl_n, fl_0, ob_o, pK_n, pK_c, pD_n, pD_c, lk_c, lk_n, str_inj, gEq_lit, str_beq, iQ_t, iQ_f, eQ_e, nm_f, nm_o, rn_f, rn_o, sl_s, bl_b, in_i, ls_l, l1_l, l2_l, e0_e, wR_okE, e_forCons, e_lcCons, tb_b, ex_e, nw_n, fz_f, wp_n, wp_c, fr_n, fr_c, fzE_o, fzE_f, fzE_b, fzE_n, le_n, le_c, ld_o, ld_f, ld_b, ld_n, ba_n, ba_c, bk_o, bk_b, bk_f, bk_n, co_s, pk_n, pk_a, pk_b, pk_c, en_0, en_B, tg_n, tg_t, tg_l, tg_0, tg_c, gLen_l, gLen_t, gIs_n, isN_n, isN_b, isN_i, isN_s, isN_l, isN_t, isN_o, isN_dK, isN_dT, it_l, it_t, it_s, gIn_sg, at_o, gT_l, gT_t, gL_l, gL_t, gIsi_e, gIsi1_e, ia_n, ia_t, ia_f, gAdd_ll, gAdd_tt, gApp_if, gNeg_i, gAdd_int, gSub_int, gLt_int, gLe_int, gGt_int, gGe_int, gEq_int, gAll_e, gAny_e, gSum_e, bo_n, bo_c, io_n, io_c, bools_mapE, ints_mapE, all_mid, any_mid, lim_e, dFrz, dOwn, dBor, pOwn, pBor, Sl.mut, Sl.val, Sl.d, Sl.put, isL, ib_non_int, ib_non_bool, ib_non_str, ib_non_list, ib_non_tuple, ib_non_dict, ib_bl_int, ib_bl_bool, ib_bl_str, ib_bl_list, ib_bl_tuple, ib_bl_dict, ib_int_int, ib_int_bool, ib_int_str, ib_int_list, ib_int_tuple, ib_int_dict, ib_str_int, ib_str_bool, ib_str_str, ib_str_list, ib_str_tuple, ib_str_dict, ib_lst_int, ib_lst_bool, ib_lst_str, ib_lst_list, ib_lst_tuple, ib_lst_dict, ib_tup_int, ib_tup_bool, ib_tup_str, ib_tup_list, ib_tup_tuple, ib_tup_dict, ib_dK_int, ib_dK_bool, ib_dK_str, ib_dK_list, ib_dK_tuple, ib_dK_dict, ib_dT_int, ib_dT_bool, ib_dT_str, ib_dT_list, ib_dT_tuple, ib_dT_dict, ib_scr_int, ib_scr_bool, ib_scr_str, ib_scr_list, ib_scr_tuple, ib_scr_dict, gIx_t0, gIx_t1, gIx_t2, gIx_t3, gIx_t4, gIx_t5, gIx_t6, gIx_t7, gIx_t8, gIx_t9, gIx_l0, gIx_l1, gIx_l2, gIx_l3, gIx_l4, gIx_l5, gIx_l6, gIx_l7, gIx_l8, gIx_l9, gIx_lm, gMod_if, gDiv_if, gMul_if, gPow_10_3, gPow_10_4, gPow_10_5, gPow_10_6, gPow_10_9, gPow_10_10, gPow_10_11, gPow_10_12, gPow_10_18, gMul_fi, gMul_md, ixN_0, ixN_1, ixN_2, ixN_3, ixN_4, ixN_5, ixN_6, ixN_7, ixN_8, ixN_9, tru_n, tru_i, tru_b, bne_self_eq_false, va_k, strQ_s, ls2_t, ls2_l, isO_o, isO_n, isO_b, isO_i, isO_s, isO_l, isO_t, isO_k, isOA_n, isOA_c, key_i, key_s, keys_n, keys_c, dget_K, dget_T, din_K, val_n, val_c, gMulX_i, gMulX_l, bx_f, bx_t, dk_k, gTuple_l, Option.isSome_some, Option.isSome_none, gIsiO_n, gIsiO_b, gIsiO_i, gIsiO_s, gIsiO_l, gIsiO_t, gIsiO_k, ne_s, ne_z, ne_n, ix_f, ix_o, ix_b, ix_x, tN_n, tN_r, tT_n, tT_r, List.getElem?_cons_zero, List.getElem?_cons_succ, List.getElem?_nil, List.set_cons_zero, List.set_cons_succ, List.map_cons, List.map_nil, List.length_cons, List.length_nil, List.replicate, List.cons_append, List.nil_append, Nat.reduceAdd, Nat.reduceSub, Nat.reduceEqDiff, Option.map_some, Option.map_none, Option.bind_some, if_true, if_false, decide_true, decide_false, Bool.not_true, Bool.not_false, Bool.and_true, Bool.true_and, Bool.and_false, Bool.false_and, Bool.or_true, Bool.true_or, Bool.or_false, Bool.false_or, Int.reduceLT, String.reduceEq, Int.reduceLE, Int.reduceEq, Int.reduceAdd, Int.reduceSub, Int.reduceNeg, Int.reduceMul, Int.reduceDiv, Int.reduceMod, Int.cast_ofNat_Int, Int.natCast_zero, Int.toNat_natCast, Int.reduceToNat, Bool.bne_false, Bool.bne_true, Bool.false_bne, Bool.true_bne, reduceIte, reduceCtorEq, ite_true, ite_false, Bool.false_eq_true, List.zip_cons_cons, List.zip_nil_right, List.getD_cons_zero, List.getD_cons_succ, true_and, and_true, and_self, Nat.reduceLT, Nat.reduceLeDiff, List.all_cons, List.all_nil, List.any_cons, List.any_nil, id_eq, gLen_c, source_e, zipA_e, gR_1, gR_2, gR_3, List.length_set])
local macro_rules | `(tactic| walk_at "v1*") => `(tactic| simp only [↓e_con, ↓e_name, ↓e_lift1, ↓e_lift2, ↓e_bool, ↓e_andT, ↓e_orT, ↓e_notT, ↓e_yes, ↓e_andV, ↓e_orV, ↓e_notV, ↓e_ifV, ↓e_argsNil, ↓e_argsCons, ↓e_lst, ↓e_tup, ↓e_callG, ↓e_call, ↓e_call0, ↓e_callK, ↓e_callB, ↓e_ixN, ↓e_peek2, ↓e_peekC, ↓e_partN, ↓e_part, ↓e_slice, ↓e_chain, ↓e_isT, ↓e_isE, ↓e_mut, ↓e_meth, ↓e_noDict, ↓e_attr, ↓e_lstRg, ↓e_new, ↓e_makeK, ↓e_next, ↓e_brk, ↓e_cont, ↓e_seq, ↓e_expr, ↓e_ret, ↓e_retN, ↓e_retName, ↓e_if, ↓e_set, ↓e_asg, ↓e_aug, ↓e_par, ↓e_raise, ↓e_for, ↓e_iterE, ↓e_iterG, ↓e_forNil, ↓e_setAt, ↓e_setIx, ↓e_comp, ↓e_lcNil, ↓e_body, ↓e_bodyB, ↓out_rt, ↓out_nx, ↓outB_rt, ↓outB_nx, ↓th_nx, ↓th_rt, ↓th_bk, ↓th_ct, ↓lo_nx, ↓lo_ct, ↓lo_bk, ↓lo_rt, ↓e_iterL, ↓e_orX, ↓e_vals, ↓e_split, ↓e_disp1, ↓e_repl, ↓e_join, ↓e_dget, ↓e_dgetT, ↓e_din, ↓e_dinN, ↓e_newDK, ↓e_newDT, ↓e_makeP, ↓e_makeQ, ↓e_sup, ↓e_isO, ↓e_isOT, ↓e_maxD, ↓e_itRev, ↓e_pop, ↓e_dput, ↓e_makeKX, ↓e_newX, ↓e_raiseE, ↓e_try, ↓e_callE, ↓e_isE, ↓e_bodyBX, ↓e_bodyE, oQ_s, fl_s, fl_n, fl_0, ob_o, pK_n, pK_c, pD_n, pD_c, lk_c, lk_n, str_inj, gEq_lit, str_beq, iQ_t, iQ_f, eQ_e, nm_f, nm_o, rn_f, rn_o, sl_s, bl_b, in_i, ls_l, l1_l, l2_l, e0_e, wR_okE, e_forCons, e_lcCons, tb_b, ex_e, nw_n, fz_f, wp_n, wp_c, fr_n, fr_c, fzE_o, fzE_f, fzE_b, fzE_n, le_n, le_c, ld_o, ld_f, ld_b, ld_n, ba_n, ba_c, bk_o, bk_b, bk_f, bk_n, co_s, pk_n, pk_a, pk_b, pk_c, en_0, en_B, tg_n, tg_t, tg_l, tg_0, tg_c, gLen_l, gLen_t, gIs_n, isN_n, isN_b, isN_i, isN_s, isN_l, isN_t, isN_o, isN_dK, isN_dT, it_l, it_t, it_s, gIn_sg, at_o, gT_l, gT_t, gL_l, gL_t, gIsi_e, gIsi1_e, ia_n, ia_t, ia_f, gAdd_ll, gAdd_tt, gApp_if, gNeg_i, gAdd_int, gSub_int, gLt_int, gLe_int, gGt_int, gGe_int, gEq_int, gAll_e, gAny_e, gSum_e, bo_n, bo_c, io_n, io_c, bools_mapE, ints_mapE, all_mid, any_mid, lim_e, dFrz, dOwn, dBor, pOwn, pBor, Sl.mut, Sl.val, Sl.d, Sl.put, isL, ib_non_int, ib_non_bool, ib_non_str, ib_non_list, ib_non_tuple, ib_non_dict, ib_bl_int, ib_bl_bool, ib_bl_str, ib_bl_list, ib_bl_tuple, ib_bl_dict, ib_int_int, ib_int_bool, ib_int_str, ib_int_list, ib_int_tuple, ib_int_dict, ib_str_int, ib_str_bool, ib_str_str, ib_str_list, ib_str_tuple, ib_str_dict, ib_lst_int, ib_lst_bool, ib_lst_str, ib_lst_list, ib_lst_tuple, ib_lst_dict, ib_tup_int, ib_tup_bool, ib_tup_str, ib_tup_list, ib_tup_tuple, ib_tup_dict, ib_dK_int, ib_dK_bool, ib_dK_str, ib_dK_list, ib_dK_tuple, ib_dK_dict, ib_dT_int, ib_dT_bool, ib_dT_str, ib_dT_list, ib_dT_tuple, ib_dT_dict, ib_scr_int, ib_scr_bool, ib_scr_str, ib_scr_list, ib_scr_tuple, ib_scr_dict, gIx_t0, gIx_t1, gIx_t2, gIx_t3, gIx_t4, gIx_t5, gIx_t6, gIx_t7, gIx_t8, gIx_t9, gIx_l0, gIx_l1, gIx_l2, gIx_l3, gIx_l4, gIx_l5, gIx_l6, gIx_l7, gIx_l8, gIx_l9, gIx_lm, gMod_if, gDiv_if, gMul_if, gPow_10_3, gPow_10_4, gPow_10_5, gPow_10_6, gPow_10_9, gPow_10_10, gPow_10_11, gPow_10_12, gPow_10_18, gMul_fi, gMul_md, ixN_0, ixN_1, ixN_2, ixN_3, ixN_4, ixN_5, ixN_6, ixN_7, ixN_8, ixN_9, tru_n, tru_i, tru_b, bne_self_eq_false, va_k, strQ_s, ls2_t, ls2_l, isO_o, isO_n, isO_b, isO_i, isO_s, isO_l, isO_t, isO_k, isOA_n, isOA_c, key_i, key_s, keys_n, keys_c, dget_K, dget_T, din_K, val_n, val_c, gMulX_i, gMulX_l, bx_f, bx_t, dk_k, gTuple_l, Option.isSome_some, Option.isSome_none, gIsiO_n, gIsiO_b, gIsiO_i, gIsiO_s, gIsiO_l, gIsiO_t, gIsiO_k, ne_s, ne_z, ne_n, ix_f, ix_o, ix_b, ix_x, tN_n, tN_r, tT_n, tT_r, List.getElem?_cons_zero, List.getElem?_cons_succ, List.getElem?_nil, List.set_cons_zero, List.set_cons_succ, List.map_cons, List.map_nil, List.length_cons, List.length_nil, List.replicate, List.cons_append, List.nil_append, Nat.reduceAdd, Nat.reduceSub, Nat.reduceEqDiff, Option.map_some, Option.map_none, Option.bind_some, if_true, if_false, decide_true, decide_false, Bool.not_true, Bool.not_false, Bool.and_true, Bool.true_and, Bool.and_false, Bool.false_and, Bool.or_true, Bool.true_or, Bool.or_false, Bool.false_or, Int.reduceLT, String.reduceEq, Int.reduceLE, Int.reduceEq, Int.reduceAdd, Int.reduceSub, Int.reduceNeg, Int.reduceMul, Int.reduceDiv, Int.reduceMod, Int.cast_ofNat_Int, Int.natCast_zero, Int.toNat_natCast, Int.reduceToNat, Bool.bne_false, Bool.bne_true, Bool.false_bne, Bool.true_bne, reduceIte, reduceCtorEq, ite_true, ite_false, Bool.false_eq_true, List.zip_cons_cons, List.zip_nil_right, List.getD_cons_zero, List.getD_cons_succ, true_and, and_true, and_self, Nat.reduceLT, Nat.reduceLeDiff, List.all_cons, List.all_nil, List.any_cons, List.any_nil, id_eq, gLen_c, source_e, zipA_e, gR_1, gR_2, gR_3, List.length_set, *])
def LawI (ns : List Int) (e : DEnv) : Prop := ∃ (o : List (Option Sl)), o.length = 9 ∧ (∀ x ∈ o, back x (lend x) = x) ∧ e = some (.frz (.scr ns)) :: o
theorem nine {α : Type} {l : List α} (h : l.length = 9) : ∃ a b c d e f g i j, l = [a, b, c, d, e, f, g, i, j] := by
  match l, h with
  | [a, b, c, d, e, f, g, i, j], _ => exact ⟨a, b, c, d, e, f, g, i, j, rfl⟩
theorem law_step {ns : List Int} {i : Nat} {d : D} {e : DEnv} {g : Out → Prop} (hi : i < 12) (hd : d = .int (0 + (i : Int))) (h : LawI ns e)
    (hg : ∀ e, LawI ns e → g (.nx e)) : wE (((seqD (setD 2 (callD D_source [(callD D_cell_at [(nameD 0), (nameD 1)])]))
    (seqD (setD 3 (compD (iterG gR1 [(lift2 gAdd (conD (.int 1)) (lift2 gDiv (callBD D_next 2 [(conD (.int 6))]) (conD (.int 2))))]) (gNameD 4) yesT (callBD D_next 2 [(conD (.int 10))]) [4] []))
    (seqD (setD 5 (compD (iterE (nameD 3)) (gNameD 6) yesT (callBD D_spoilt 2 [(nameD 6)]) [6] []))
    (seqD (setD 7 (callBD D_values 2 []))
    (seqD (setD 8 (callG gList [(nameD 7)]))
    (seqD (forS (iterG gZipA [(nameD 3), (nameD 5)]) (gTupD 2 (gConsD (gNameD 6) (gConsD (gNameD 9) gNilD)))
    (setIxD 8 (nameD 9) (nameD 6)))
    (seqD (ifD (boolT (lift2 (gNeO "Style" D_Style_eq) (callD D_all [(nameD 7)]) (callD D_all [(nameD 7)])))
    (retD (conD (.bl false)))
    nextD)
    (seqD (ifD (orT (notT (boolT (callD D_refused [(nameD 8), (conD .non)]))) (notT (boolT (callD D_refused [(nameD 8), (lift2 gIx (nameD 3) (conD (.int 0)))]))))
    (retD (conD (.bl false)))
    nextD)
    (ifD (orT (boolT (callD D_refused [(nameD 7), (conD .non)])) (boolT (callD D_refused [(nameD 7), (lift2 gIx (nameD 3) (conD (.int 0)))])))
    (retD (conD (.bl false)))
    nextD)))))))))) (e.set 1 (some (.frz d)))) g (fun _ _ => False) kq kq := by
  subst hd
  obtain ⟨o, hl, hb, rfl⟩ := h
  obtain ⟨q1, q2, q3, q4, q5, q6, q7, q8, q9, rfl⟩ := nine hl
  have hs0 : ∀ r, IsSrc (srcD r r 0) := fun r => ⟨r, r, 0, rfl⟩
  have b4 := hb q4 (by simp)
  have b5 := hb q5 (by simp)
  have b6 := hb q6 (by simp)
  have b7 := hb q7 (by simp)
  have b8 := hb q8 (by simp)
  have b9 := hb q9 (by simp)
  have b3 := hb q3 (by simp)
  clear hb
  obtain ⟨r, hr⟩ := cell_s (ns := ns) (k := 0 + (i : Int)) (by omega)
  walk_at "v1"
  simp only [hr]
  walk_at "v1"
  with_reducible refine wE_mon (next_s (show IsSrc (srcD r r 0) from hs0 r) (by decide) (by decide)) ?_
  rintro _ ⟨w, s1, h0, h1, hs1, rfl⟩
  clear hr
  have hw : w / 2 = 0 ∨ w / 2 = 1 ∨ w / 2 = 2 := by omega
  walk_at "v1"
  rcases hw with hw | hw | hw <;> simp only [hw]
  · walk_at "v1"
    with_reducible refine wE_mon (next_s (s := s1) ‹_› (by decide) (by decide)) ?_
    rintro _ ⟨a, t1, a0, a1, ht1, rfl⟩
    obtain ⟨a, rfl⟩ := Int.eq_ofNat_of_zero_le a0
    have ka : a < 10 := by omega
    walk_at "v1"
    with_reducible refine wE_mon (spoilt_s (s := t1) ‹_› ka) ?_
    rintro _ ⟨xa, u1, oa, ca, hu1, rfl⟩
    walk_at "v1"
    with_reducible refine wE_mon (values_s (s := u1) ‹_›) ?_
    rintro _ ⟨vs, z, hd, hv, hz, rfl⟩
    have e1 := all_ok hd hv
    have e2 := ne_e hd.1 hv
    have e3 := refused_n hd
    rw [hv] at e3
    have va : ∃ v, vs[a]? = some v := ⟨_, List.getElem?_eq_getElem (by rw [hd.1]; exact ka)⟩
    obtain ⟨va, hva⟩ := va
    have e4 := refused_i hd hva
    rw [okAll_k hv a va hva] at e4
    have da := set_data (i := a) hd oa
    have la := hd.1
    obtain ⟨w1, hw1, hw2⟩ := (chk_set hd.1 ka ca (.inl rfl))
    have hn := okAll_no hw1 hw2
    have e5 := refused_n da
    rw [hn] at e5
    have e6 := refused_i da hw1
    rw [hw2] at e6
    have ia := ixN_k ka
    have hl10 := hd.1
    clear la da hva hn hw1 hw2
    clear hz b3 b4 b5 b6 b7 b8 b9 hw h0 h1 hs1 hi hl hs0 ht1 hu1 a0 a1 ka hd hv
    walk_at "v1"
    simp only [hl10, List.length_set, ia]
    walk_at "v1"
    walk_at "v1*"
    refine hg _ ⟨_, rfl, fun x hx => ?_, rfl⟩
    simp only [List.mem_cons, List.not_mem_nil, or_false] at hx
    rcases hx with rfl | rfl | rfl | rfl | rfl | rfl | rfl | rfl | rfl <;> rfl
  · walk_at "v1"
    with_reducible refine wE_mon (next_s (s := s1) ‹_› (by decide) (by decide)) ?_
    rintro _ ⟨a, t1, a0, a1, ht1, rfl⟩
    obtain ⟨a, rfl⟩ := Int.eq_ofNat_of_zero_le a0
    have ka : a < 10 := by omega
    walk_at "v1"
    with_reducible refine wE_mon (next_s (s := t1) ‹_› (by decide) (by decide)) ?_
    rintro _ ⟨b, t2, b0, b1, ht2, rfl⟩
    obtain ⟨b, rfl⟩ := Int.eq_ofNat_of_zero_le b0
    have kb : b < 10 := by omega
    walk_at "v1"
    with_reducible refine wE_mon (spoilt_s (s := t2) ‹_› ka) ?_
    rintro _ ⟨xa, u1, oa, ca, hu1, rfl⟩
    walk_at "v1"
    with_reducible refine wE_mon (spoilt_s (s := u1) ‹_› kb) ?_
    rintro _ ⟨xb, u2, ob, cb, hu2, rfl⟩
    walk_at "v1"
    with_reducible refine wE_mon (values_s (s := u2) ‹_›) ?_
    rintro _ ⟨vs, z, hd, hv, hz, rfl⟩
    have e1 := all_ok hd hv
    have e2 := ne_e hd.1 hv
    have e3 := refused_n hd
    rw [hv] at e3
    have va : ∃ v, vs[a]? = some v := ⟨_, List.getElem?_eq_getElem (by rw [hd.1]; exact ka)⟩
    obtain ⟨va, hva⟩ := va
    have e4 := refused_i hd hva
    rw [okAll_k hv a va hva] at e4
    have da := set_data (i := a) hd oa
    have la := hd.1
    have db := set_data (i := b) da ob
    have lb := da.1
    obtain ⟨w1, hw1, hw2⟩ := (chk_set da.1 kb cb (.inr (chk_set hd.1 ka ca (.inl rfl))))
    have hn := okAll_no hw1 hw2
    have e5 := refused_n db
    rw [hn] at e5
    have e6 := refused_i db hw1
    rw [hw2] at e6
    have ia := ixN_k ka
    have ib := ixN_k kb
    have hl10 := hd.1
    clear la lb db da hva hn hw1 hw2
    clear hz b3 b4 b5 b6 b7 b8 b9 hw h0 h1 hs1 hi hl hs0 ht1 hu1 a0 a1 ka ht2 hu2 b0 b1 kb hd hv
    walk_at "v1"
    simp only [hl10, List.length_set, ia]
    walk_at "v1"
    simp only [hl10, List.length_set, ib]
    walk_at "v1"
    walk_at "v1*"
    refine hg _ ⟨_, rfl, fun x hx => ?_, rfl⟩
    simp only [List.mem_cons, List.not_mem_nil, or_false] at hx
    rcases hx with rfl | rfl | rfl | rfl | rfl | rfl | rfl | rfl | rfl <;> rfl
  · walk_at "v1"
    with_reducible refine wE_mon (next_s (s := s1) ‹_› (by decide) (by decide)) ?_
    rintro _ ⟨a, t1, a0, a1, ht1, rfl⟩
    obtain ⟨a, rfl⟩ := Int.eq_ofNat_of_zero_le a0
    have ka : a < 10 := by omega
    walk_at "v1"
    with_reducible refine wE_mon (next_s (s := t1) ‹_› (by decide) (by decide)) ?_
    rintro _ ⟨b, t2, b0, b1, ht2, rfl⟩
    obtain ⟨b, rfl⟩ := Int.eq_ofNat_of_zero_le b0
    have kb : b < 10 := by omega
    walk_at "v1"
    with_reducible refine wE_mon (next_s (s := t2) ‹_› (by decide) (by decide)) ?_
    rintro _ ⟨c, t3, c0, c1, ht3, rfl⟩
    obtain ⟨c, rfl⟩ := Int.eq_ofNat_of_zero_le c0
    have kc : c < 10 := by omega
    walk_at "v1"
    with_reducible refine wE_mon (spoilt_s (s := t3) ‹_› ka) ?_
    rintro _ ⟨xa, u1, oa, ca, hu1, rfl⟩
    walk_at "v1"
    with_reducible refine wE_mon (spoilt_s (s := u1) ‹_› kb) ?_
    rintro _ ⟨xb, u2, ob, cb, hu2, rfl⟩
    walk_at "v1"
    with_reducible refine wE_mon (spoilt_s (s := u2) ‹_› kc) ?_
    rintro _ ⟨xc, u3, oc, cc, hu3, rfl⟩
    walk_at "v1"
    with_reducible refine wE_mon (values_s (s := u3) ‹_›) ?_
    rintro _ ⟨vs, z, hd, hv, hz, rfl⟩
    have e1 := all_ok hd hv
    have e2 := ne_e hd.1 hv
    have e3 := refused_n hd
    rw [hv] at e3
    have va : ∃ v, vs[a]? = some v := ⟨_, List.getElem?_eq_getElem (by rw [hd.1]; exact ka)⟩
    obtain ⟨va, hva⟩ := va
    have e4 := refused_i hd hva
    rw [okAll_k hv a va hva] at e4
    have da := set_data (i := a) hd oa
    have la := hd.1
    have db := set_data (i := b) da ob
    have lb := da.1
    have dc := set_data (i := c) db oc
    have lc := db.1
    obtain ⟨w1, hw1, hw2⟩ := (chk_set db.1 kc cc (.inr (chk_set da.1 kb cb (.inr (chk_set hd.1 ka ca (.inl rfl))))))
    have hn := okAll_no hw1 hw2
    have e5 := refused_n dc
    rw [hn] at e5
    have e6 := refused_i dc hw1
    rw [hw2] at e6
    have ia := ixN_k ka
    have ib := ixN_k kb
    have ic := ixN_k kc
    have hl10 := hd.1
    clear la lb lc dc db da hva hn hw1 hw2
    clear hz b3 b4 b5 b6 b7 b8 b9 hw h0 h1 hs1 hi hl hs0 ht1 hu1 a0 a1 ka ht2 hu2 b0 b1 kb ht3 hu3 c0 c1 kc hd hv
    walk_at "v1"
    simp only [hl10, List.length_set, ia]
    walk_at "v1"
    simp only [hl10, List.length_set, ib]
    walk_at "v1"
    simp only [hl10, List.length_set, ic]
    walk_at "v1"
    walk_at "v1*"
    refine hg _ ⟨_, rfl, fun x hx => ?_, rfl⟩
    simp only [List.mem_cons, List.not_mem_nil, or_false] at hx
    rcases hx with rfl | rfl | rfl | rfl | rfl | rfl | rfl | rfl | rfl <;> rfl
theorem law_true {ns : List Int} (hn : ns.length ≤ 63) : ∃ bs, D_law [.scr ns] = .ok (.frz (.bl true), bs) := by
  have h : wR (D_law [.scr ns]) (fun p => p = (.frz (.bl true), [])) fun _ _ => False := wE_in (by
    obtain ⟨m, hm, m0, m1⟩ := min_b (n := ns.length)
    obtain ⟨k, hk, k0, k1⟩ := max_b m0 m1
    have hr := gR1_ok (j := k) (by omega) (by omega)
    unfold D_law d_law
    walk_at "v1"
    simp only [hm]
    walk_at "v1"
    simp only [hk]
    walk_at "v1"
    simp only [hr]
    walk_at "v1"
    with_reducible refine w_forInv (fun _ => LawI ns) ?_ ?_ ?_
    · refine ⟨_, rfl, ?_, rfl⟩
      intro x hx
      simp only [List.mem_cons, List.not_mem_nil, or_false, or_self] at hx
      rw [hx]
      rfl
    · intro i d e hd he
      obtain ⟨hi, rfl⟩ := rangeL_get hd
      rw [tg_n, oQ_s]
      with_reducible refine law_step (i := i) (by omega) rfl he ?_
      exact fun e he => he
    · rintro e ⟨o, _, _, rfl⟩
      walk_at "v1")
  obtain ⟨bs, e, rfl⟩ := h.ok
  exact ⟨_, e⟩

end
def dd_p_is_whole : He.DefD := ⟨("is_whole", none), "is_whole", "is_whole", defArgs s_p_is_whole, defBody s_p_is_whole, defScope s_p_is_whole, [], []⟩
def dd_p_is_count : He.DefD := ⟨("is_count", none), "is_count", "is_count", defArgs s_p_is_count, defBody s_p_is_count, defScope s_p_is_count, [], []⟩
def dd_p_is_name : He.DefD := ⟨("is_name", none), "is_name", "is_name", defArgs s_p_is_name, defBody s_p_is_name, defScope s_p_is_name, [], []⟩
def dd_p_is_one_of : He.DefD := ⟨("is_one_of", none), "is_one_of", "is_one_of", defArgs s_p_is_one_of, defBody s_p_is_one_of, defScope s_p_is_one_of, [], []⟩
def dd_p_fields_of : He.DefD := ⟨("fields_of", none), "fields_of", "fields_of", defArgs s_p_fields_of, defBody s_p_fields_of, defScope s_p_fields_of, [], []⟩
def dd_p_refuse_unless : He.DefD := ⟨("refuse_unless", none), "refuse_unless", "refuse_unless", defArgs s_p_refuse_unless, defBody s_p_refuse_unless, defScope s_p_refuse_unless, [], []⟩
def dd_p_is_size : He.DefD := ⟨("is_size", none), "is_size", "is_size", defArgs s_p_is_size, defBody s_p_is_size, defScope s_p_is_size, [], []⟩
def dd_p_is_part : He.DefD := ⟨("is_part", none), "is_part", "is_part", defArgs s_p_is_part, defBody s_p_is_part, defScope s_p_is_part, [], []⟩
def dd_p_is_tie : He.DefD := ⟨("is_tie", none), "is_tie", "is_tie", defArgs s_p_is_tie, defBody s_p_is_tie, defScope s_p_is_tie, [], []⟩
def dd_p_is_bound : He.DefD := ⟨("is_bound", none), "is_bound", "is_bound", defArgs s_p_is_bound, defBody s_p_is_bound, defScope s_p_is_bound, [], []⟩
def dd_p_are_rims : He.DefD := ⟨("are_rims", none), "are_rims", "are_rims", defArgs s_p_are_rims, defBody s_p_are_rims, defScope s_p_are_rims, [], []⟩
def dd_cell_at : He.DefD := ⟨("_law_cell_at", none), "_law_cell_at", "_law_cell_at", defArgs s_cell_at, defBody s_cell_at, defScope s_cell_at, [], []⟩
def dd_mixed : He.DefD := ⟨("_law_mixed", none), "_law_mixed", "_law_mixed", defArgs s_mixed, defBody s_mixed, defScope s_mixed, [], []⟩
def dd_source : He.DefD := ⟨("_law_source", none), "_law_source", "_law_source", defArgs s_source, defBody s_source, defScope s_source, [], []⟩
def dd_next : He.DefD := ⟨("_law_next", none), "_law_next", "_law_next", defArgs s_next, defBody s_next, defScope s_next, [], []⟩
def dd_name : He.DefD := ⟨("_law_name", none), "_law_name", "_law_name", defArgs s_name, defBody s_name, defScope s_name, [], []⟩
def dd_number : He.DefD := ⟨("_law_number", none), "_law_number", "_law_number", defArgs s_number, defBody s_number, defScope s_number, [], []⟩
def dd_size : He.DefD := ⟨("_law_size", none), "_law_size", "_law_size", defArgs s_size, defBody s_size, defScope s_size, [], []⟩
def dd_values : He.DefD := ⟨("_law_values", none), "_law_values", "_law_values", defArgs s_values, defBody s_values, defScope s_values, [], []⟩
def dd_no_count : He.DefD := ⟨("_law_no_count", none), "_law_no_count", "_law_no_count", defArgs s_no_count, defBody s_no_count, defScope s_no_count, [], []⟩
def dd_no_name : He.DefD := ⟨("_law_no_name", none), "_law_no_name", "_law_no_name", defArgs s_no_name, defBody s_no_name, defScope s_no_name, [], []⟩
def dd_no_size : He.DefD := ⟨("_law_no_size", none), "_law_no_size", "_law_no_size", defArgs s_no_size, defBody s_no_size, defScope s_no_size, [], []⟩
def dd_no_rims : He.DefD := ⟨("_law_no_rims", none), "_law_no_rims", "_law_no_rims", defArgs s_no_rims, defBody s_no_rims, defScope s_no_rims, [], []⟩
def dd_no_stand : He.DefD := ⟨("_law_no_stand", none), "_law_no_stand", "_law_no_stand", defArgs s_no_stand, defBody s_no_stand, defScope s_no_stand, [], []⟩
def dd_spoilt : He.DefD := ⟨("_law_spoilt", none), "_law_spoilt", "_law_spoilt", defArgs s_spoilt, defBody s_spoilt, defScope s_spoilt, [], []⟩
def dd_all : He.DefD := ⟨("_law_all", none), "_law_all", "_law_all", defArgs s_all, defBody s_all, defScope s_all, [], []⟩
def dd_alone : He.DefD := ⟨("_law_alone", none), "_law_alone", "_law_alone", defArgs s_alone, defBody s_alone, defScope s_alone, [], []⟩
def dd_only : He.DefD := ⟨("_law_only", none), "_law_only", "_law_only", defArgs s_only, defBody s_only, defScope s_only, [], []⟩
def dd_refused : He.DefD := ⟨("_law_refused", none), "_law_refused", "_law_refused", defArgs s_refused, defBody s_refused, defScope s_refused, [], []⟩
def dd_law : He.DefD := ⟨("law", none), "law", "law", defArgs s_law, defBody s_law, defScope s_law, [], []⟩
def dd_Style_init : He.DefD := ⟨("Style", some "__init__"), "__init__", "Style.__init__", defArgs s_Style_init, defBody s_Style_init, defScope s_Style_init, [], [("wide", .non), ("high", .non), ("least_wide", .non), ("least_high", .non), ("most_wide", .non), ("most_high", .non), ("grow", .int 0), ("shrink", .int 1), ("rims", .glo "NO_RIMS"), ("stand", .non)]⟩
def dd_Style_eq : He.DefD := ⟨("Style", some "__eq__"), "__eq__", "Style.__eq__", defArgs s_Style_eq, defBody s_Style_eq, defScope s_Style_eq, [], []⟩
def fnL : List He.DefD := [dd_p_is_whole, dd_p_is_count, dd_p_is_name, dd_p_is_one_of, dd_p_fields_of, dd_p_refuse_unless, dd_p_is_size, dd_p_is_part, dd_p_is_tie, dd_p_is_bound, dd_p_are_rims, dd_cell_at, dd_mixed, dd_source, dd_next, dd_name, dd_number, dd_size, dd_values, dd_no_count, dd_no_name, dd_no_size, dd_no_rims, dd_no_stand, dd_spoilt, dd_all, dd_alone, dd_only, dd_refused, dd_law, dd_Style_init, dd_Style_eq]
def exL0 (K : PySem.W.Frag) : List Bool := [valB K "LONGEST_NAME" (.int 8), valB K "LETTERS" (.str (Str.ofString "abcdefghijklmnopqrstuvwxyz")), He.tupB K "NO_RIMS" [.int 0, .int 0, .int 0, .int 0], He.tupB K "SIDES" [.str (Str.ofString "wide"), .str (Str.ofString "tall")], He.tupB K "STANDS" [.str (Str.ofString "start"), .str (Str.ofString "end"), .str (Str.ofString "middle"), .str (Str.ofString "stretch"), .str (Str.ofString "base")], mkB K (He.ga K "Style"), clsB K (He.ga K "Style"), clsB2 K (He.ga K "Style"), eqB K (He.ga K "Style"), bltB K (He.ga K "Style"), kitT K (He.ga K "Style"), decide (PySem.W.kitOne K (.ref (He.ga K "Style")) (.ref (He.ga K "Style")) = some true), He.eqO (PySem.W.findIn K (.ref (He.ga K "Style")) "wide") (some none), He.eqO (PySem.W.findIn K (.ref (He.ga K "Style")) "high") (some none), He.eqO (PySem.W.findIn K (.ref (He.ga K "Style")) "least_wide") (some none), He.eqO (PySem.W.findIn K (.ref (He.ga K "Style")) "least_high") (some none), He.eqO (PySem.W.findIn K (.ref (He.ga K "Style")) "most_wide") (some none), He.eqO (PySem.W.findIn K (.ref (He.ga K "Style")) "most_high") (some none), He.eqO (PySem.W.findIn K (.ref (He.ga K "Style")) "grow") (some none), He.eqO (PySem.W.findIn K (.ref (He.ga K "Style")) "shrink") (some none), He.eqO (PySem.W.findIn K (.ref (He.ga K "Style")) "rims") (some none), He.eqO (PySem.W.findIn K (.ref (He.ga K "Style")) "stand") (some none), errB K (He.ga K "NoStyle"), errB2 K (He.ga K "NoStyle"), decide (PySem.W.exmOne K (.ref (He.ga K "NoStyle")) (.ref (He.ga K "NestError")) = some true), decide (PySem.W.kitOne K (.ref (He.ga K "NoStyle")) (.ref (He.ga K "NoName")) = some false), decide (PySem.W.kitOne K (.ref (He.ga K "NoStyle")) (.ref (He.ga K "NoNumber")) = some false), decide (PySem.W.kitOne K (.ref (He.ga K "NoStyle")) (.ref (He.ga K "NoText")) = some false), decide (PySem.W.kitOne K (.ref (He.ga K "NoStyle")) (.ref (He.ga K "NoBox")) = some false), decide (PySem.W.kitOne K (.ref (He.ga K "NoStyle")) (.ref (He.ga K "NoStand")) = some false), decide (PySem.W.kitOne K (.ref (He.ga K "NoStyle")) (.ref (He.ga K "NoTree")) = some false), decide (PySem.W.kitOne K (.ref (He.ga K "NoStyle")) (.ref (He.ga K "NoTruth")) = some false), decide (PySem.W.kitOne K (.ref (He.ga K "NoStyle")) (.ref (He.ga K "NoRow")) = some false), decide (PySem.W.kitOne K (.ref (He.ga K "NoStyle")) (.ref (He.ga K "NoStyle")) = some true), decide (PySem.W.kitOne K (.ref (He.ga K "NoStyle")) (.type "ValueError") = some true), freeB K "isinstance", freeB K "int", freeB K "bool", freeB K "all", freeB K "str"]
def exL1 (K : PySem.W.Frag) : List Bool := [freeB K "len", freeB K "tuple", freeB K "range", freeB K "ValueError", freeB K "any", freeB K "max", freeB K "list", freeB K "zip", freeB K "min", gloB K "is_whole", gloB K "is_count", gloB K "is_name", gloB K "is_one_of", gloB K "fields_of", gloB K "refuse_unless", gloB K "is_size", gloB K "is_part", gloB K "is_tie", gloB K "is_bound", gloB K "are_rims", gloB K "_law_cell_at", gloB K "_law_mixed", gloB K "_law_source", gloB K "_law_next", gloB K "_law_name", gloB K "_law_number", gloB K "_law_size", gloB K "_law_values", gloB K "_law_no_count", gloB K "_law_no_name", gloB K "_law_no_size", gloB K "_law_no_rims", gloB K "_law_no_stand", gloB K "_law_spoilt", gloB K "_law_all", gloB K "_law_alone", gloB K "_law_only", gloB K "_law_refused", gloB K "law", gloB K "NO_RIMS"]
def exL2 (K : PySem.W.Frag) : List Bool := [gloB K "SIDES", gloB K "STANDS", gloB K "Style", gloB K "NoStyle", gloB K "NestError", gloB K "NoName", gloB K "NoNumber", gloB K "NoText", gloB K "NoBox", gloB K "NoStand", gloB K "NoTree", gloB K "NoTruth", gloB K "NoRow"]
def exL (K : PySem.W.Frag) : List Bool := exL0 K ++ exL1 K ++ exL2 K
def nmL0 : List PySem.Str := ["NestError", "NoNumber", "NoText", "NoName", "NoStyle", "NoBox", "NoTruth", "NoStand", "NoTree", "NoRow", "is_whole", "is_count", "LETTERS", "LONGEST_NAME", "is_name", "is_one_of", "NO_RIMS", "SIDES", "STANDS", "Style", "fields_of", "told_fields", "refuse_unless", "is_size", "is_part", "is_tie", "is_bound", "are_rims", "_law_cell_at", "_law_mixed"]
def nmL1 : List PySem.Str := ["_law_source", "_law_next", "_law_name", "_law_number", "_law_size", "_law_values", "_law_no_count", "_law_no_name", "_law_no_size", "_law_no_rims", "_law_no_stand", "_law_spoilt", "_law_all", "_law_alone", "_law_only", "_law_refused"]
def nmL : List PySem.Str := nmL0 ++ nmL1
def slL0 : List PySem.Str := ["is_whole", "is_count", "is_name", "is_one_of", "fields_of", "refuse_unless", "is_size", "is_part", "is_tie", "is_bound", "are_rims", "_law_cell_at", "_law_mixed", "_law_source", "_law_next", "_law_name", "_law_number", "_law_size", "_law_values", "_law_no_count", "_law_no_name", "_law_no_size", "_law_no_rims", "_law_no_stand", "_law_spoilt", "_law_all", "_law_alone", "_law_only", "_law_refused", "law"]
def slL1 : List PySem.Str := ["NO_RIMS", "SIDES", "STANDS", "Style", "NoStyle", "NestError", "NoName", "NoNumber", "NoText", "NoBox", "NoStand", "NoTree", "NoTruth", "NoRow"]
def slL : List PySem.Str := slL0 ++ slL1
abbrev Rw : PySem.W.OpenRow := PySem.W.OpenLaw.row PySem.Challenge.rw_nestlaid_k16_styles_refused
abbrev hk : PySem.W.Hook := hookZ slL exL fnL
def ob (s : PySem.W.SharedT) : He.AlD := obsZG slL exL fnL (HandSHeadRun.getT s)
theorem ob_eq (s : PySem.W.SharedT) : ob s = hk.obs s.abs := obsZG_eq (HandSHeadRun.getT_eq s)
set_option maxHeartbeats 0 in
theorem run (w : World) : HandSHeadRun.RunEq Rw (PySem.W.view Rw.prog [51]) hk ob 4000 nmL w := by
  intro os
  kernel_rfl
theorem all_hk {P : Program} {w : World} {K : PySem.W.Frag} {h : Heap} {mg : Str → Option Value} {fa : Addr} (X : K.In h) (G : h.Ns mainGlobals mg) (hfa : mg ("law" : Str) = some (.ref fa)) (c : SaysZ exL fnL K) :
    ∃ fd : FuncData, (∀ (s : Shared) (v : Value), BindsTo s fd ⟨[v], []⟩ [("_law_script", v)]) ∧ ∀ base : Heap, K.In base → base.Ns mainGlobals mg → FnOk P w K mg base CX0 10 fa fd ["_law_script"] (Dd.spLaw K) := by
  have g_is_whole := gloB_ok X G (c.at 49 rfl)
  have g_is_count := gloB_ok X G (c.at 50 rfl)
  have g_is_name := gloB_ok X G (c.at 51 rfl)
  have g_is_one_of := gloB_ok X G (c.at 52 rfl)
  have g_fields_of := gloB_ok X G (c.at 53 rfl)
  have g_refuse_unless := gloB_ok X G (c.at 54 rfl)
  have g_is_size := gloB_ok X G (c.at 55 rfl)
  have g_is_part := gloB_ok X G (c.at 56 rfl)
  have g_is_tie := gloB_ok X G (c.at 57 rfl)
  have g_is_bound := gloB_ok X G (c.at 58 rfl)
  have g_are_rims := gloB_ok X G (c.at 59 rfl)
  have g__law_cell_at := gloB_ok X G (c.at 60 rfl)
  have g__law_mixed := gloB_ok X G (c.at 61 rfl)
  have g__law_source := gloB_ok X G (c.at 62 rfl)
  have g__law_next := gloB_ok X G (c.at 63 rfl)
  have g__law_name := gloB_ok X G (c.at 64 rfl)
  have g__law_number := gloB_ok X G (c.at 65 rfl)
  have g__law_size := gloB_ok X G (c.at 66 rfl)
  have g__law_values := gloB_ok X G (c.at 67 rfl)
  have g__law_no_count := gloB_ok X G (c.at 68 rfl)
  have g__law_no_name := gloB_ok X G (c.at 69 rfl)
  have g__law_no_size := gloB_ok X G (c.at 70 rfl)
  have g__law_no_rims := gloB_ok X G (c.at 71 rfl)
  have g__law_no_stand := gloB_ok X G (c.at 72 rfl)
  have g__law_spoilt := gloB_ok X G (c.at 73 rfl)
  have g__law_all := gloB_ok X G (c.at 74 rfl)
  have g__law_alone := gloB_ok X G (c.at 75 rfl)
  have g__law_only := gloB_ok X G (c.at 76 rfl)
  have g__law_refused := gloB_ok X G (c.at 77 rfl)
  have g_law := gloB_ok X G (c.at 78 rfl)
  have g_NO_RIMS := gloB_ok X G (c.at 79 rfl)
  have g_SIDES := gloB_ok X G (c.at 80 rfl)
  have g_STANDS := gloB_ok X G (c.at 81 rfl)
  have g_Style := gloB_ok X G (c.at 82 rfl)
  have g_NoStyle := gloB_ok X G (c.at 83 rfl)
  have g_NestError := gloB_ok X G (c.at 84 rfl)
  have g_NoName := gloB_ok X G (c.at 85 rfl)
  have g_NoNumber := gloB_ok X G (c.at 86 rfl)
  have g_NoText := gloB_ok X G (c.at 87 rfl)
  have g_NoBox := gloB_ok X G (c.at 88 rfl)
  have g_NoStand := gloB_ok X G (c.at 89 rfl)
  have g_NoTree := gloB_ok X G (c.at 90 rfl)
  have g_NoTruth := gloB_ok X G (c.at 91 rfl)
  have g_NoRow := gloB_ok X G (c.at 92 rfl)
  have T : Txt K mg := ⟨has_hk (c.def_ 0 (d := dd_p_is_whole) rfl) g_is_whole (fun _ _ _ _ _ _ us hl => match us, hl with | [_], _ => rfl),
    has_hk (c.def_ 1 (d := dd_p_is_count) rfl) g_is_count (fun _ _ _ _ _ _ us hl => match us, hl with | [_], _ => rfl),
    has_hk (c.def_ 2 (d := dd_p_is_name) rfl) g_is_name (fun _ _ _ _ _ _ us hl => match us, hl with | [_], _ => rfl),
    has_hk (c.def_ 3 (d := dd_p_is_one_of) rfl) g_is_one_of (fun _ _ _ _ _ _ us hl => match us, hl with | [_, _], _ => rfl),
    has_hk (c.def_ 4 (d := dd_p_fields_of) rfl) g_fields_of (fun _ _ _ _ _ _ us hl => match us, hl with | [_], _ => rfl),
    has_hk (c.def_ 5 (d := dd_p_refuse_unless) rfl) g_refuse_unless (fun _ _ _ _ _ _ us hl => match us, hl with | [_, _], _ => rfl),
    has_hk (c.def_ 6 (d := dd_p_is_size) rfl) g_is_size (fun _ _ _ _ _ _ us hl => match us, hl with | [_], _ => rfl),
    has_hk (c.def_ 7 (d := dd_p_is_part) rfl) g_is_part (fun _ _ _ _ _ _ us hl => match us, hl with | [_], _ => rfl),
    has_hk (c.def_ 8 (d := dd_p_is_tie) rfl) g_is_tie (fun _ _ _ _ _ _ us hl => match us, hl with | [_], _ => rfl),
    has_hk (c.def_ 9 (d := dd_p_is_bound) rfl) g_is_bound (fun _ _ _ _ _ _ us hl => match us, hl with | [_], _ => rfl),
    has_hk (c.def_ 10 (d := dd_p_are_rims) rfl) g_are_rims (fun _ _ _ _ _ _ us hl => match us, hl with | [_], _ => rfl),
    has_hk (c.def_ 11 (d := dd_cell_at) rfl) g__law_cell_at (fun _ _ _ _ _ _ us hl => match us, hl with | [_, _], _ => rfl),
    has_hk (c.def_ 12 (d := dd_mixed) rfl) g__law_mixed (fun _ _ _ _ _ _ us hl => match us, hl with | [_, _], _ => rfl),
    has_hk (c.def_ 13 (d := dd_source) rfl) g__law_source (fun _ _ _ _ _ _ us hl => match us, hl with | [_], _ => rfl),
    has_hk (c.def_ 14 (d := dd_next) rfl) g__law_next (fun _ _ _ _ _ _ us hl => match us, hl with | [_, _], _ => rfl),
    has_hk (c.def_ 15 (d := dd_name) rfl) g__law_name (fun _ _ _ _ _ _ us hl => match us, hl with | [_, _], _ => rfl),
    has_hk (c.def_ 16 (d := dd_number) rfl) g__law_number (fun _ _ _ _ _ _ us hl => match us, hl with | [_], _ => rfl),
    has_hk (c.def_ 17 (d := dd_size) rfl) g__law_size (fun _ _ _ _ _ _ us hl => match us, hl with | [_], _ => rfl),
    has_hk (c.def_ 18 (d := dd_values) rfl) g__law_values (fun _ _ _ _ _ _ us hl => match us, hl with | [_], _ => rfl),
    has_hk (c.def_ 19 (d := dd_no_count) rfl) g__law_no_count (fun _ _ _ _ _ _ us hl => match us, hl with | [_], _ => rfl),
    has_hk (c.def_ 20 (d := dd_no_name) rfl) g__law_no_name (fun _ _ _ _ _ _ us hl => match us, hl with | [_], _ => rfl),
    has_hk (c.def_ 21 (d := dd_no_size) rfl) g__law_no_size (fun _ _ _ _ _ _ us hl => match us, hl with | [_], _ => rfl),
    has_hk (c.def_ 22 (d := dd_no_rims) rfl) g__law_no_rims (fun _ _ _ _ _ _ us hl => match us, hl with | [_], _ => rfl),
    has_hk (c.def_ 23 (d := dd_no_stand) rfl) g__law_no_stand (fun _ _ _ _ _ _ us hl => match us, hl with | [_], _ => rfl),
    has_hk (c.def_ 24 (d := dd_spoilt) rfl) g__law_spoilt (fun _ _ _ _ _ _ us hl => match us, hl with | [_, _], _ => rfl),
    has_hk (c.def_ 25 (d := dd_all) rfl) g__law_all (fun _ _ _ _ _ _ us hl => match us, hl with | [_], _ => rfl),
    has_hk (c.def_ 26 (d := dd_alone) rfl) g__law_alone (fun _ _ _ _ _ _ us hl => match us, hl with | [_, _], _ => rfl),
    has_hk (c.def_ 27 (d := dd_only) rfl) g__law_only (fun _ _ _ _ _ _ us hl => match us, hl with | [_], _ => rfl),
    has_hk (c.def_ 28 (d := dd_refused) rfl) g__law_refused (fun _ _ _ _ _ _ us hl => match us, hl with | [_, _], _ => rfl),
    valB_ok X G (c.at 0 rfl),
    valB_ok X G (c.at 1 rfl),
    ⟨_, by rw [clsA_of g_NO_RIMS]; exact g_NO_RIMS, rfl⟩,
    (by rw [clsA_of g_NO_RIMS]; exact tupB_K (c.at 2 rfl)),
    ⟨_, by rw [clsA_of g_SIDES]; exact g_SIDES, rfl⟩,
    (by rw [clsA_of g_SIDES]; exact tupB_K (c.at 3 rfl)),
    ⟨_, by rw [clsA_of g_STANDS]; exact g_STANDS, rfl⟩,
    (by rw [clsA_of g_STANDS]; exact tupB_K (c.at 4 rfl)),
    (by rw [clsA_of g_NO_RIMS]; exact init_hk g_Style (c.at 5 rfl) (c.def_ 30 (d := dd_Style_init) rfl)),
    clsF_hk g_Style (c.at 6 rfl) (c.at 7 rfl),
    eqM_hk g_Style (c.at 8 rfl) (c.def_ 31 (d := dd_Style_eq) rfl),
    blt_hk g_Style (c.at 9 rfl),
    kitT_hk g_Style (c.at 10 rfl),
    ownk_hk g_Style g_Style (c.at 11 rfl),
    noat_hk g_Style (c.at 12 rfl),
    noat_hk g_Style (c.at 13 rfl),
    noat_hk g_Style (c.at 14 rfl),
    noat_hk g_Style (c.at 15 rfl),
    noat_hk g_Style (c.at 16 rfl),
    noat_hk g_Style (c.at 17 rfl),
    noat_hk g_Style (c.at 18 rfl),
    noat_hk g_Style (c.at 19 rfl),
    noat_hk g_Style (c.at 20 rfl),
    noat_hk g_Style (c.at 21 rfl),
    err_hk g_NoStyle (c.at 22 rfl) (c.at 23 rfl),
    caught_hk g_NoStyle g_NestError (c.at 24 rfl),
    kit_hk g_NoStyle g_NoName (c.at 25 rfl),
    kit_hk g_NoStyle g_NoNumber (c.at 26 rfl),
    kit_hk g_NoStyle g_NoText (c.at 27 rfl),
    kit_hk g_NoStyle g_NoBox (c.at 28 rfl),
    kit_hk g_NoStyle g_NoStand (c.at 29 rfl),
    kit_hk g_NoStyle g_NoTree (c.at 30 rfl),
    kit_hk g_NoStyle g_NoTruth (c.at 31 rfl),
    kit_hk g_NoStyle g_NoRow (c.at 32 rfl),
    kit_hk g_NoStyle g_NoStyle (c.at 33 rfl),
    kitv_hk g_NoStyle (c.at 34 rfl),
    freeB_ok X G (c.at 35 rfl),
    freeB_ok X G (c.at 36 rfl),
    freeB_ok X G (c.at 37 rfl),
    freeB_ok X G (c.at 38 rfl),
    freeB_ok X G (c.at 39 rfl),
    freeB_ok X G (c.at 40 rfl),
    freeB_ok X G (c.at 41 rfl),
    freeB_ok X G (c.at 42 rfl),
    freeB_ok X G (c.at 43 rfl),
    freeB_ok X G (c.at 44 rfl),
    freeB_ok X G (c.at 45 rfl),
    freeB_ok X G (c.at 46 rfl),
    freeB_ok X G (c.at 47 rfl),
    freeB_ok X G (c.at 48 rfl)⟩
  obtain ⟨fd, F⟩ := (c.def_ 29 (d := dd_law) rfl)
  have e := hfa.symm.trans g_law
  cases e
  have b := FunD.bindsA (ps := ["_law_script"]) F fun _ _ _ _ _ _ us hl => match us, hl with | [_], _ => rfl
  exact ⟨fd, fun s v => b s [v] rfl, fun base _ _ => law_end (ok_law (funH F) T) fun _ h => law_true h⟩
end K16
open PySem PySem.W PySem.Calls PyProof.Rows
set_option maxRecDepth 100000 in
set_option maxHeartbeats 0 in
theorem PySem.Challenge.cw_nestlaid_k16_styles_refused_holds : PySem.Challenge.rw_nestlaid_k16_styles_refused.Holds := by
  w_on; o_law
  refine HandSHeadRun.head_any (r := OpenLaw.row PySem.Challenge.rw_nestlaid_k16_styles_refused) (q := view (OpenLaw.row PySem.Challenge.rw_nestlaid_k16_styles_refused).prog [51]) (H := K16.hk) (ob := K16.ob) (M := 4000) (loose := K16.nmL) (d := HandSHeadRun.topDef (OpenLaw.row PySem.Challenge.rw_nestlaid_k16_styles_refused).prog 51) (kwd := []) K16.ob_eq
    (by kernel_rfl) (fun s => by kernel_rfl) K16.run (by kernel_rfl) (by kernel_rfl) (by kernel_rfl) (by rfl) (by first | assumption | decide +kernel) (by decide +kernel) ⟨rfl, rfl, rfl, rfl, rfl, by decide +kernel⟩ ?hw ?hc
  case hw => w_witness2
  case hc =>
    refine L2.walk_ofE (l := PySem.Challenge.rw_nestlaid_k16_styles_refused) (n := 63) (k := 10) (x := "_law_script") (CX := L2.CX0) rfl (by decide) (by kernel_rfl) ⟨rfl, by decide, by decide⟩ ?F (fun _ _ _ _ z => z)
    intro w mg fa h Y G hmg0
    obtain ⟨K, KX, c⟩ := Y
    have hmg : mg ("law" : PySem.Str) = some (.ref fa) := by
      have e : (HandSHeadRun.topDef (OpenLaw.row PySem.Challenge.rw_nestlaid_k16_styles_refused).prog 51).name = ("law" : PySem.Str) := by kernel_rfl
      rw [← e]
      exact hmg0
    obtain ⟨fd, hb, hF⟩ := K16.all_hk (P := (PySem.Challenge.rw_nestlaid_k16_styles_refused).prog) (w := w) KX G hmg c
    exact ⟨K, fd, Dd.spLaw K, KX, hb, fun H a ns hl _ hS => ⟨a, ns, rfl, hS, hl, fun _ => rfl⟩, hF⟩
