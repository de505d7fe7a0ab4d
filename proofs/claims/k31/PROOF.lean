import PyProof.Rows.All
import Wide.All
import OpenK.AllK
import Wide.FinOn
import HandS.ForMost
import HandS.ForExc
import HandS.Wide
import HandS.Defaults
import HandS.IsInst
import HandS.FStr
import HandS.Walk
import HandS.CallLocal
import HandS.Evl
import HandS.ExcIs
import HandS.Conv
import HandS.Style
import PyProof.NeKinds
import HandS.SetFor
import HandS.Strs
import PySem.Challenge.RW_nestlaid_k31_what_are_no_tracks
set_option Elab.async false
set_option linter.all false
set_option maxRecDepth 100000
set_option maxHeartbeats 4000000
namespace Dd
open PySem PySem.Spec PyProof.Rows L2
/-! ### data -/
inductive D where
  | non
  | bl (b : Bool)
  | int (i : Int)
  | str (x : Str)
  | lst (xs : List D)
  | tup (xs : List D)
  | scr (ns : List Int)
  | dK (ks : List Key) (vs : List D)
  | dT (ks : List (List Key)) (vs : List D)
  | obj (c : Str) (ks : List Str) (vs : List D)
  | ty (n : String)
  | cls (c : Str)
instance : Inhabited D := ⟨.non⟩
def clsA (mg : Str → Option Value) (x : Str) : Addr := match mg x with
  | some (.ref a) => a
  | _ => 0
theorem clsA_of {mg : Str → Option Value} {x : Str} {a : Addr} (h : mg x = some (.ref a)) : clsA mg x = a := by
  unfold clsA
  rw [h]
/-! ### a value that stands for a datum -/
mutual
def Rep (K : PySem.W.Frag) (mg : Str → Option Value) (H : Hp) : D → V → Prop
  | .non, v => v = .non
  | .bl b, v => v = .bl b
  | .int i, v => v = .int i
  | .str x, v => v = .str x
  | .lst ds, v => ∃ a xs, v = .ref a ∧ H a = some (.lst xs) ∧ RepL K mg H ds xs
  | .tup ds, v => ∃ a xs, v = .ref a ∧ SqT K H a xs ∧ RepL K mg H ds xs
  | .scr ns, v => ∃ a, v = .ref a ∧ SqL K H a (ns.map V.int)
  | .dK ks ds, v => ∃ a xs, v = .ref a ∧ H a = some (.dK (ks.zip xs)) ∧ ks.length = ds.length ∧ RepL K mg H ds xs
  | .dT ks ds, v => ∃ a xs, v = .ref a ∧ H a = some (.dT (ks.zip xs)) ∧ ks.length = ds.length ∧ RepL K mg H ds xs
  | .obj c ks ds, v => ∃ a dx xs, v = .ref a ∧ H a = some (.ins (clsA mg c) dx (ks.zip xs)) ∧ ks.length = ds.length ∧ RepL K mg H ds xs
  | .ty n, v => v = .ty n
  | .cls c, v => v = .ref (clsA mg c)
def RepL (K : PySem.W.Frag) (mg : Str → Option Value) (H : Hp) : List D → List V → Prop
  | [], xs => xs = []
  | d :: ds, xs => ∃ x r, xs = x :: r ∧ Rep K mg H d x ∧ RepL K mg H ds r
end
section
variable {K : PySem.W.Frag} {mg : Str → Option Value} {H H' F : Hp}
theorem sameT {a : Addr} {xs : List V} (s : Same H H') (h : SqT K H a xs) : SqT K H' a xs := by
  rcases h with (h | ⟨o, h⟩) | h
  · exact .inl (.inl (s _ _ h))
  · exact .inl (.inr ⟨o, s _ _ h⟩)
  · exact .inr h
mutual
theorem Rep.mono (s : Same H H') : ∀ {d : D} {v : V}, Rep K mg H d v → Rep K mg H' d v
  | .non, v, h => by unfold Rep at h ⊢; exact h
  | .bl b, v, h => by unfold Rep at h ⊢; exact h
  | .int b, v, h => by unfold Rep at h ⊢; exact h
  | .str b, v, h => by unfold Rep at h ⊢; exact h
  | .ty b, v, h => by unfold Rep at h ⊢; exact h
  | .cls b, v, h => by unfold Rep at h ⊢; exact h
  | .lst ds, v, h => by
    unfold Rep at h ⊢
    obtain ⟨a, xs, e, h1, h2⟩ := h
    exact ⟨a, xs, e, s _ _ h1, RepL.mono s h2⟩
  | .tup ds, v, h => by
    unfold Rep at h ⊢
    obtain ⟨a, xs, e, h1, h2⟩ := h
    exact ⟨a, xs, e, sameT s h1, RepL.mono s h2⟩
  | .scr ns, v, h => by
    unfold Rep at h ⊢
    obtain ⟨a, e, h1⟩ := h
    exact ⟨a, e, s.seq h1⟩
  | .dK ks ds, v, h => by
    unfold Rep at h ⊢
    obtain ⟨a, xs, e, h1, h0, h2⟩ := h
    exact ⟨a, xs, e, s _ _ h1, h0, RepL.mono s h2⟩
  | .dT ks ds, v, h => by
    unfold Rep at h ⊢
    obtain ⟨a, xs, e, h1, h0, h2⟩ := h
    exact ⟨a, xs, e, s _ _ h1, h0, RepL.mono s h2⟩
  | .obj c ks ds, v, h => by
    unfold Rep at h ⊢
    obtain ⟨a, dx, xs, e, h1, h0, h2⟩ := h
    exact ⟨a, dx, xs, e, s _ _ h1, h0, RepL.mono s h2⟩
theorem RepL.mono (s : Same H H') : ∀ {ds : List D} {xs : List V}, RepL K mg H ds xs → RepL K mg H' ds xs
  | [], xs, h => by unfold RepL at h ⊢; exact h
  | d :: ds, xs, h => by
    unfold RepL at h ⊢
    obtain ⟨x, r, e, h1, h2⟩ := h
    exact ⟨x, r, e, Rep.mono s h1, RepL.mono s h2⟩
end
theorem RepL.nil {xs : List V} (h : RepL K mg H [] xs) : xs = [] := by unfold RepL at h; exact h
theorem repNil : RepL K mg H [] [] := by unfold RepL; rfl
theorem repCons {d : D} {ds : List D} {x : V} {xs : List V} (h : Rep K mg H d x) (hs : RepL K mg H ds xs) : RepL K mg H (d :: ds) (x :: xs) := by
  unfold RepL
  exact ⟨x, xs, rfl, h, hs⟩
theorem RepL.cons {d : D} {ds : List D} {xs : List V} (h : RepL K mg H (d :: ds) xs) : ∃ x r, xs = x :: r ∧ Rep K mg H d x ∧ RepL K mg H ds r := by
  unfold RepL at h
  exact h
theorem RepL.len : ∀ {ds : List D} {xs : List V}, RepL K mg H ds xs → xs.length = ds.length
  | [], xs, h => by rw [h.nil]; rfl
  | d :: ds, xs, h => by
    obtain ⟨x, r, rfl, _, h2⟩ := h.cons
    simp [RepL.len h2]
theorem RepL.get : ∀ {ds : List D} {xs : List V} {i : Nat} {d : D}, RepL K mg H ds xs → ds[i]? = some d → ∃ x, xs[i]? = some x ∧ Rep K mg H d x
  | [], xs, i, d, h, e => by simp at e
  | d :: ds, xs, 0, d', h, e => by
    obtain ⟨x, r, rfl, h1, h2⟩ := h.cons
    simp at e
    subst e
    exact ⟨x, rfl, h1⟩
  | d :: ds, xs, i + 1, d', h, e => by
    obtain ⟨x, r, rfl, h1, h2⟩ := h.cons
    obtain ⟨y, h3, h4⟩ := RepL.get (i := i) h2 (by simpa using e)
    exact ⟨y, by simpa using h3, h4⟩
theorem RepL.app : ∀ {ds es : List D} {xs ys : List V}, RepL K mg H ds xs → RepL K mg H es ys → RepL K mg H (ds ++ es) (xs ++ ys)
  | [], es, xs, ys, h, h' => by rw [h.nil]; exact h'
  | d :: ds, es, xs, ys, h, h' => by
    obtain ⟨x, r, rfl, h1, h2⟩ := h.cons
    exact repCons h1 (RepL.app h2 h')
theorem RepL.take : ∀ {ds : List D} {xs : List V} (n : Nat), RepL K mg H ds xs → RepL K mg H (ds.take n) (xs.take n)
  | ds, xs, 0, h => by simpa using repNil
  | [], xs, n + 1, h => by rw [h.nil]; simpa using repNil
  | d :: ds, xs, n + 1, h => by
    obtain ⟨x, r, rfl, h1, h2⟩ := h.cons
    simpa using repCons h1 (RepL.take n h2)
theorem RepL.drop : ∀ {ds : List D} {xs : List V} (n : Nat), RepL K mg H ds xs → RepL K mg H (ds.drop n) (xs.drop n)
  | ds, xs, 0, h => by simpa using h
  | [], xs, n + 1, h => by rw [h.nil]; simpa using repNil
  | d :: ds, xs, n + 1, h => by
    obtain ⟨x, r, rfl, h1, h2⟩ := h.cons
    simpa using RepL.drop n h2
theorem RepL.set : ∀ {ds : List D} {xs : List V} {d : D} {x : V} (n : Nat), RepL K mg H ds xs → Rep K mg H d x → RepL K mg H (ds.set n d) (xs.set n x)
  | [], xs, d, x, n, h, hd => by rw [h.nil]; simpa using repNil
  | e :: ds, xs, d, x, 0, h, hd => by
    obtain ⟨y, r, rfl, h1, h2⟩ := h.cons
    simpa using repCons hd h2
  | e :: ds, xs, d, x, n + 1, h, hd => by
    obtain ⟨y, r, rfl, h1, h2⟩ := h.cons
    simpa using repCons h1 (RepL.set n h2 hd)
theorem RepL.rev : ∀ {ds : List D} {xs : List V}, RepL K mg H ds xs → RepL K mg H ds.reverse xs.reverse
  | [], xs, h => by rw [h.nil]; simpa using repNil
  | d :: ds, xs, h => by
    obtain ⟨x, r, rfl, h1, h2⟩ := h.cons
    rw [List.reverse_cons, List.reverse_cons]
    exact (RepL.rev h2).app (repCons h1 repNil)
theorem RepL.ints : ∀ {ns : List Int}, RepL K mg H (ns.map D.int) (ns.map V.int)
  | [] => repNil
  | n :: r => repCons (by unfold Rep; rfl) RepL.ints
theorem rInt {i : Int} : Rep K mg H (.int i) (.int i) := by unfold Rep; rfl
theorem rBl {b : Bool} : Rep K mg H (.bl b) (.bl b) := by unfold Rep; rfl
theorem rStr {x : Str} : Rep K mg H (.str x) (.str x) := by unfold Rep; rfl
theorem rNon : Rep K mg H .non .non := by unfold Rep; rfl
theorem Rep.int {i : Int} {v : V} (h : Rep K mg H (.int i) v) : v = .int i := by unfold Rep at h; exact h
theorem Rep.bl {b : Bool} {v : V} (h : Rep K mg H (.bl b) v) : v = .bl b := by unfold Rep at h; exact h
theorem Rep.str {x : Str} {v : V} (h : Rep K mg H (.str x) v) : v = .str x := by unfold Rep at h; exact h
theorem Rep.non {v : V} (h : Rep K mg H .non v) : v = .non := by unfold Rep at h; exact h
theorem Rep.lst {ds : List D} {v : V} (h : Rep K mg H (.lst ds) v) : ∃ a xs, v = .ref a ∧ H a = some (.lst xs) ∧ RepL K mg H ds xs := by unfold Rep at h; exact h
theorem Rep.tup {ds : List D} {v : V} (h : Rep K mg H (.tup ds) v) : ∃ a xs, v = .ref a ∧ SqT K H a xs ∧ RepL K mg H ds xs := by unfold Rep at h; exact h
theorem Rep.scr {ns : List Int} {v : V} (h : Rep K mg H (.scr ns) v) : ∃ a, v = .ref a ∧ SqL K H a (ns.map V.int) := by unfold Rep at h; exact h
theorem Rep.ofLst {ds : List D} {a : Addr} {xs : List V} (h : H a = some (.lst xs)) (r : RepL K mg H ds xs) : Rep K mg H (.lst ds) (.ref a) := by unfold Rep; exact ⟨a, xs, rfl, h, r⟩
theorem Rep.ofTup {ds : List D} {a : Addr} {xs : List V} (h : H a = some (.tup xs)) (r : RepL K mg H ds xs) : Rep K mg H (.tup ds) (.ref a) := by unfold Rep; exact ⟨a, xs, rfl, .inl (.inl h), r⟩
end
/-! ### what a piece of the program comes to -/
inductive R (ε α : Type) where
  | ok (a : α)
  | er (c : Str) (fs : List (Str × D)) (e : ε)
  | no
def R.bind {ε α β : Type} (x : R ε α) (f : α → R ε β) : R ε β := match x with
  | .ok a => f a
  | .er c fs e => .er c fs e
  | .no => .no
@[simp] theorem R.bind_ok {ε α β : Type} (a : α) (f : α → R ε β) : R.bind (.ok a) f = f a := rfl
@[simp] theorem R.bind_er {ε α β : Type} (c : Str) (fs : List (Str × D)) (e : ε) (f : α → R ε β) : R.bind (.er c fs e) f = .er c fs e := rfl
@[simp] theorem R.bind_no {ε α β : Type} (f : α → R ε β) : R.bind (.no) f = .no := rfl
/-- a slot: what stands; what the def owns; what it has borrowed -/
inductive Sl where
  | frz (d : D)
  | own (d : D)
  | bor (d : D)
  | exn (c : Str)
@[reducible] def Sl.mut : Sl → Bool
  | .frz _ => false
  | .exn _ => false
  | _ => true
@[reducible] def Sl.val : Sl → Option D
  | .frz d => some d
  | .own d => some d
  | .bor d => some d
  | .exn _ => none
@[reducible] def Sl.d : Sl → D
  | .frz d => d
  | .own d => d
  | .bor d => d
  | .exn _ => .non
@[reducible] def Sl.put : Sl → D → Sl
  | .frz _, d => .frz d
  | .own _, d => .own d
  | .bor _, d => .bor d
  | .exn c, _ => .exn c
abbrev DEnv := List (Option Sl)
structure Cd where
  K : PySem.W.Frag
  mg : Str → Option Value
  F0 : Hp
  H0 : Hp
  B : Addr → Prop
  W : WX
  ex : Addr := 0
  exc : Str := ""
  rz : Bool := false
def Own (K : PySem.W.Frag) (mg : Str → Option Value) (F H : Hp) : D → Addr → Prop
  | .lst ds, p => ∃ xs, H p = some (.lst xs) ∧ RepL K mg F ds xs
  | .dK ks ds, p => ∃ xs, H p = some (.dK (ks.zip xs)) ∧ ks.length = ds.length ∧ RepL K mg F ds xs
  | _, _ => False
def SlOk (C : Cd) (F H : Hp) : Sl → V → Prop
  | .frz d, v => Rep C.K C.mg F d v
  | .own d, v => ∃ p, v = .ref p ∧ F p = none ∧ C.H0 p = none ∧ Own C.K C.mg F H d p
  | .bor d, v => ∃ p, v = .ref p ∧ F p = none ∧ C.B p ∧ Own C.K C.mg F H d p
  | .exn c, v => v = .ref C.ex ∧ c = C.exc
structure In (C : Cd) (F H : Hp) (σ : L2.St) (env : DEnv) : Prop where
  f0 : Same C.F0 F
  fh : Same F H
  fr : ∀ a o, C.H0 a = some o → ¬ C.B a → H a = some o
  nf : ∀ a o, F a = some o → C.F0 a = some o ∨ C.H0 a = none
  len : σ.length = env.length
  sl : ∀ (i : Nat) (s : Sl), env[i]? = some (some s) → ∃ v, σ[i]? = some (some v) ∧ SlOk C F H s v
  ds : ∀ (i j : Nat) (s t : Sl) (p : Addr), env[i]? = some (some s) → env[j]? = some (some t) → s.mut = true → t.mut = true → σ[i]? = some (some (.ref p)) → σ[j]? = some (some (.ref p)) → i = j
  bs : ∀ p, C.B p → H p ≠ none
section
variable {C : Cd} {F H F' H' : Hp} {σ : L2.St} {env : DEnv}
theorem Own.some {K : PySem.W.Frag} {mg : Str → Option Value} {d : D} {p : Addr} (h : Own K mg F H d p) : ∃ o, H p = some o := by
  cases d <;> first | exact h.elim | (obtain ⟨xs, h, _⟩ := h; exact ⟨_, h⟩)
theorem Own.mono {d : D} {p : Addr} (h : Own C.K C.mg F H d p) (sf : Same F F') (sh : ∀ o, H p = .some o → H' p = .some o) : Own C.K C.mg F' H' d p := by
  cases d <;> first
    | exact h.elim
    | (obtain ⟨xs, h1, h2⟩ := h; exact ⟨xs, sh _ h1, h2.mono sf⟩)
    | (obtain ⟨xs, h1, h0, h2⟩ := h; exact ⟨xs, sh _ h1, h0, h2.mono sf⟩)
theorem In.none (I : In C F H σ env) {p : Addr} (n : H p = .none) : F p = .none := by
  cases e : F p with
  | none => rfl
  | some o => rw [I.fh _ _ e] at n; cases n
theorem In.none0 (I : In C F H σ env) {p : Addr} (n : H p = .none) : C.H0 p = .none := by
  cases e : C.H0 p with
  | none => rfl
  | some o =>
    by_cases hb : C.B p
    · exact absurd n (I.bs p hb)
    · rw [I.fr _ _ e hb] at n; cases n
/-- a new object that is frozen at once -/
theorem In.alloc (I : In C F H σ env) {p : Addr} {o : HO} (n : H p = .none) : In C (upd F p o) (upd H p o) σ env := by
  have nF := I.none n
  have n0 := I.none0 n
  have sF : Same F (upd F p o) := fun b x e => by rw [upd_ne (ne_of_none e nF)]; exact e
  refine ⟨I.f0.trans sF, fun a x h => ?_, fun a x h hb => ?_, fun a x h => ?_, I.len, fun i s h => ?_, I.ds, fun q hq => ?_⟩
  · by_cases e : a = p
    · subst e; rw [upd_same] at h ⊢; exact h
    · rw [upd_ne e] at h ⊢; exact I.fh _ _ h
  · have ne : a ≠ p := fun z => by rw [z, n0] at h; cases h
    rw [upd_ne ne]; exact I.fr _ _ h hb
  · by_cases e : a = p
    · subst e; exact .inr n0
    · rw [upd_ne e] at h; exact I.nf _ _ h
  · obtain ⟨v, hv, hs⟩ := I.sl i s h
    refine ⟨v, hv, ?_⟩
    cases s with
    | frz d => exact Rep.mono sF hs
    | exn c => exact hs
    | own d =>
      obtain ⟨q, e, h1, h2, h3⟩ := hs
      obtain ⟨o', h4⟩ := h3.some
      have ne : q ≠ p := ne_of_none h4 n
      exact ⟨q, e, by rw [upd_ne ne]; exact h1, h2, h3.mono sF fun x hx => by rw [upd_ne ne]; exact hx⟩
    | bor d =>
      obtain ⟨q, e, h1, h2, h3⟩ := hs
      obtain ⟨o', h4⟩ := h3.some
      have ne : q ≠ p := ne_of_none h4 n
      exact ⟨q, e, by rw [upd_ne ne]; exact h1, h2, h3.mono sF fun x hx => by rw [upd_ne ne]; exact hx⟩
  · have := I.bs q hq
    have ne : q ≠ p := fun z => this (z ▸ n)
    rw [upd_ne ne]; exact this
theorem In.same (I : In C F H σ env) {p : Addr} {o : HO} (n : H p = .none) : Same F (upd F p o) := fun b x e => by rw [upd_ne (ne_of_none e (I.none n))]; exact e
/-- a new object that nobody has frozen -/
theorem In.fresh (I : In C F H σ env) {p : Addr} {o : HO} (n : H p = .none) : In C F (upd H p o) σ env := by
  have n0 := I.none0 n
  refine ⟨I.f0, fun a x h => ?_, fun a x h hb => ?_, I.nf, I.len, fun i s h => ?_, I.ds, fun q hq => ?_⟩
  · rw [upd_ne (ne_of_none (I.fh _ _ h) n)]; exact I.fh _ _ h
  · have ne : a ≠ p := fun z => by rw [z, n0] at h; cases h
    rw [upd_ne ne]; exact I.fr _ _ h hb
  · obtain ⟨v, hv, hs⟩ := I.sl i s h
    refine ⟨v, hv, ?_⟩
    cases s with
    | frz d => exact hs
    | exn c => exact hs
    | own d =>
      obtain ⟨q, e, h1, h2, h3⟩ := hs
      obtain ⟨o', h4⟩ := h3.some
      exact ⟨q, e, h1, h2, h3.mono (.refl _) fun x hx => by rw [upd_ne (ne_of_none h4 n)]; exact hx⟩
    | bor d =>
      obtain ⟨q, e, h1, h2, h3⟩ := hs
      obtain ⟨o', h4⟩ := h3.some
      exact ⟨q, e, h1, h2, h3.mono (.refl _) fun x hx => by rw [upd_ne (ne_of_none h4 n)]; exact hx⟩
  · have := I.bs q hq
    have ne : q ≠ p := fun z => this (z ▸ n)
    rw [upd_ne ne]; exact this
/-- a value that a def may give away: new, its own -/
structure Fresh (C : Cd) (F H : Hp) (env : DEnv) (σ : L2.St) (d : D) (p : Addr) : Prop where
  f : F p = none
  h0 : C.H0 p = none
  o : Own C.K C.mg F H d p
  ne : ∀ (i : Nat) (s : Sl), env[i]? = some (some s) → s.mut = true → σ[i]? ≠ some (some (.ref p))
/-- any object that F does not know may be frozen, if no slot owns it -/
theorem In.freeze (I : In C F H σ env) {p : Addr} {o : HO} (hp : H p = some o) (n0 : C.H0 p = .none) (nF : F p = .none) (ne : ∀ (i : Nat) (s : Sl), env[i]? = some (some s) → s.mut = true → σ[i]? ≠ some (some (.ref p))) : In C (upd F p o) H σ env := by
  have sF : Same F (upd F p o) := fun b x e => by rw [upd_ne (ne_of_none e nF)]; exact e
  refine ⟨I.f0.trans sF, fun a x h => ?_, I.fr, fun a x h => ?_, I.len, fun i s h => ?_, I.ds, I.bs⟩
  · by_cases e : a = p
    · subst e; rw [upd_same] at h; cases h; exact hp
    · rw [upd_ne e] at h; exact I.fh _ _ h
  · by_cases e : a = p
    · subst e; exact .inr n0
    · rw [upd_ne e] at h; exact I.nf _ _ h
  · obtain ⟨v, hv, hs⟩ := I.sl i s h
    refine ⟨v, hv, ?_⟩
    cases s with
    | frz d => exact Rep.mono sF hs
    | exn c => exact hs
    | own d =>
      obtain ⟨q, e, h1, h2, h3⟩ := hs
      have nq : q ≠ p := fun z => ne i _ h rfl (by rw [hv, e, z])
      exact ⟨q, e, by rw [upd_ne nq]; exact h1, h2, h3.mono sF fun _ z => z⟩
    | bor d =>
      obtain ⟨q, e, h1, h2, h3⟩ := hs
      have nq : q ≠ p := fun z => ne i _ h rfl (by rw [hv, e, z])
      exact ⟨q, e, by rw [upd_ne nq]; exact h1, h2, h3.mono sF fun _ z => z⟩
theorem Own.rep {d : D} {p : Addr} (h : Own C.K C.mg F H d p) {o : HO} (hp : H p = .some o) (nF : F p = none) : Rep C.K C.mg (upd F p o) d (.ref p) := by
  have sF : Same F (upd F p o) := fun b x e => by rw [upd_ne (ne_of_none e nF)]; exact e
  cases d <;> first
    | exact h.elim
    | (obtain ⟨xs, h1, h2⟩ := h; rw [hp] at h1; cases h1; unfold Rep; exact ⟨p, xs, rfl, upd_same, h2.mono sF⟩)
    | (obtain ⟨xs, h1, h0, h2⟩ := h; rw [hp] at h1; cases h1; unfold Rep; exact ⟨p, xs, rfl, upd_same, h0, h2.mono sF⟩)
/-- a slot forgotten -/
theorem In.drop (I : In C F H σ env) (i : Nat) (o : Option V) : In C F H (σ.set i o) (env.set i .none) := by
  refine ⟨I.f0, I.fh, I.fr, I.nf, by rw [List.length_set, List.length_set]; exact I.len, fun j s h => ?_, fun j k s t p hj hk ms mt aj ak => ?_, I.bs⟩
  · by_cases e : i = j
    · subst e
      rw [List.getElem?_set_self' ] at h
      cases q : env[i]? with
      | none => rw [q] at h; cases h
      | some z => rw [q] at h; cases h
    · rw [List.getElem?_set_ne e] at h ⊢
      exact I.sl j s h
  · by_cases e : i = j
    · subst e
      rw [List.getElem?_set_self'] at hj
      cases q : env[i]? with
      | none => rw [q] at hj; cases hj
      | some z => rw [q] at hj; cases hj
    · by_cases e' : i = k
      · subst e'
        rw [List.getElem?_set_self'] at hk
        cases q : env[i]? with
        | none => rw [q] at hk; cases hk
        | some z => rw [q] at hk; cases hk
      · rw [List.getElem?_set_ne e] at hj aj
        rw [List.getElem?_set_ne e'] at hk ak
        exact I.ds j k s t p hj hk ms mt aj ak
theorem set_self {α : Type} {l : List α} {i : Nat} {a x : α} (h : (l.set i a)[i]? = some x) : i < l.length ∧ x = a := by
  have hl : i < (l.set i a).length := (List.getElem?_eq_some_iff.mp h).1
  rw [List.length_set] at hl
  rw [List.getElem?_set_self hl] at h
  exact ⟨hl, (Option.some.inj h).symm⟩
/-- a slot set to what stands -/
theorem In.put (I : In C F H σ env) {i : Nat} {d : D} {v : V} (h : Rep C.K C.mg F d v) : In C F H (σ.set i (some v)) (env.set i (some (.frz d))) := by
  refine ⟨I.f0, I.fh, I.fr, I.nf, by rw [List.length_set, List.length_set]; exact I.len, fun j s hj => ?_, fun j k s t p hj hk ms mt aj ak => ?_, I.bs⟩
  · by_cases e : i = j
    · subst e
      obtain ⟨hl, es⟩ := set_self hj
      cases es
      refine ⟨v, ?_, h⟩
      rw [List.getElem?_set_self (by rw [I.len]; exact hl)]
    · rw [List.getElem?_set_ne e] at hj ⊢
      exact I.sl j s hj
  · by_cases e : i = j
    · subst e
      obtain ⟨hl, es⟩ := set_self hj
      cases es
      cases ms
    · by_cases e' : i = k
      · subst e'
        obtain ⟨hl, es⟩ := set_self hk
        cases es
        cases mt
      · rw [List.getElem?_set_ne e] at hj aj
        rw [List.getElem?_set_ne e'] at hk ak
        exact I.ds j k s t p hj hk ms mt aj ak
/-- a slot set to what is new -/
theorem In.putOwn (I : In C F H σ env) {i : Nat} {d : D} {p : Addr} (h : Fresh C F H env σ d p) : In C F H (σ.set i (some (.ref p))) (env.set i (some (.own d))) := by
  refine ⟨I.f0, I.fh, I.fr, I.nf, by rw [List.length_set, List.length_set]; exact I.len, fun j s hj => ?_, fun j k s t q hj hk ms mt aj ak => ?_, I.bs⟩
  · by_cases e : i = j
    · subst e
      obtain ⟨hl, es⟩ := set_self hj
      cases es
      refine ⟨.ref p, ?_, p, rfl, h.f, h.h0, h.o⟩
      rw [List.getElem?_set_self (by rw [I.len]; exact hl)]
    · rw [List.getElem?_set_ne e] at hj ⊢
      exact I.sl j s hj
  · by_cases e : i = j
    · by_cases e' : i = k
      · exact e.symm.trans e'
      · subst e
        obtain ⟨hl, es⟩ := set_self hj
        rw [List.getElem?_set_self (by rw [I.len]; exact hl)] at aj
        cases aj
        rw [List.getElem?_set_ne e'] at hk ak
        exact absurd ak (h.ne k t hk mt)
    · by_cases e' : i = k
      · subst e'
        obtain ⟨hl, es⟩ := set_self hk
        rw [List.getElem?_set_self (by rw [I.len]; exact hl)] at ak
        cases ak
        rw [List.getElem?_set_ne e] at hj aj
        exact absurd aj (h.ne j s hj ms)
      · rw [List.getElem?_set_ne e] at hj aj
        rw [List.getElem?_set_ne e'] at hk ak
        exact I.ds j k s t q hj hk ms mt aj ak
/-- what a slot owns has changed -/
theorem In.change (I : In C F H σ env) {i : Nat} {s : Sl} {p : Addr} {o : HO} {d : D} (hi : env[i]? = some (some s)) (ms : s.mut = true) (hv : σ[i]? = some (some (.ref p))) (ho : Own C.K C.mg F (upd H p o) d p) : In C F (upd H p o) σ (env.set i (some (s.put d))) := by
  have hp : F p = .none ∧ (C.H0 p = .none ∨ C.B p) ∧ ∃ o', H p = some o' := by
    obtain ⟨v, e, hs⟩ := I.sl i s hi
    rw [hv] at e
    cases e
    cases s with
    | frz d => cases ms
    | exn c => cases ms
    | own d =>
      obtain ⟨q, e, h1, h2, h3⟩ := hs
      cases e
      exact ⟨h1, .inl h2, h3.some⟩
    | bor d =>
      obtain ⟨q, e, h1, h2, h3⟩ := hs
      cases e
      exact ⟨h1, .inr h2, h3.some⟩
  obtain ⟨nF, n0, o', hp⟩ := hp
  refine ⟨I.f0, fun a x h => ?_, fun a x h hb => ?_, I.nf, by rw [List.length_set]; exact I.len, fun j t hj => ?_, fun j k t u q hj hk ms' mt aj ak => ?_, fun q hq => ?_⟩
  · rw [upd_ne (ne_of_none h nF)]; exact I.fh _ _ h
  · have ne : a ≠ p := fun z => by
      rcases n0 with n0 | n0
      · rw [z, n0] at h; cases h
      · exact hb (z ▸ n0)
    rw [upd_ne ne]; exact I.fr _ _ h hb
  · by_cases e : i = j
    · subst e
      obtain ⟨hl, es⟩ := set_self hj
      cases es
      refine ⟨.ref p, hv, ?_⟩
      obtain ⟨v, e, hs⟩ := I.sl i s hi
      rw [hv] at e
      cases e
      cases s with
      | frz d => cases ms
      | exn c => cases ms
      | own d =>
        obtain ⟨q, e, h1, h2, h3⟩ := hs
        cases e
        exact ⟨p, rfl, nF, h2, ho⟩
      | bor d =>
        obtain ⟨q, e, h1, h2, h3⟩ := hs
        cases e
        exact ⟨p, rfl, nF, h2, ho⟩
    · rw [List.getElem?_set_ne e] at hj
      obtain ⟨v, ev, hs⟩ := I.sl j t hj
      refine ⟨v, ev, ?_⟩
      cases t with
      | frz d => exact hs
      | exn c => exact hs
      | own d =>
        obtain ⟨q, e1, h1, h2, h3⟩ := hs
        have nq : q ≠ p := fun z => e (I.ds i j s _ p hi hj ms rfl hv (by rw [ev, e1, z]))
        exact ⟨q, e1, h1, h2, h3.mono (.refl _) fun x hx => by rw [upd_ne nq]; exact hx⟩
      | bor d =>
        obtain ⟨q, e1, h1, h2, h3⟩ := hs
        have nq : q ≠ p := fun z => e (I.ds i j s _ p hi hj ms rfl hv (by rw [ev, e1, z]))
        exact ⟨q, e1, h1, h2, h3.mono (.refl _) fun x hx => by rw [upd_ne nq]; exact hx⟩
  · have mo : ∀ {j : Nat} {t : Sl}, (env.set i (some (s.put d)))[j]? = some (some t) → t.mut = true → ∃ t', env[j]? = some (some t') ∧ t'.mut = true := by
      intro j t hj mt
      by_cases e : i = j
      · subst e
        exact ⟨s, hi, ms⟩
      · rw [List.getElem?_set_ne e] at hj
        exact ⟨t, hj, mt⟩
    obtain ⟨t', h1, h2⟩ := mo hj ms'
    obtain ⟨u', h3, h4⟩ := mo hk mt
    exact I.ds j k t' u' q h1 h3 h2 h4 aj ak
  · by_cases e : q = p
    · rw [e, upd_same]; exact fun z => nomatch z
    · rw [upd_ne e]; exact I.bs q hq
end
structure Ext (F H F' H' : Hp) : Prop where
  ff : Same F F'
  fh : Same F' H'
  hh : Same H H'
  nf : ∀ a o, F' a = some o → F a = some o ∨ H a = none
section
variable {C : Cd} {F H F' H' : Hp} {σ : L2.St} {env : DEnv}
theorem Own.keep {d : D} {p : Addr} {K : PySem.W.Frag} {mg : Str → Option Value} (h : Own K mg F H d p) (sf : Same F F') (sh : ∀ o, H p = .some o → H' p = .some o) : Own K mg F' H' d p := by
  cases d <;> first
    | exact h.elim
    | (obtain ⟨xs, h1, h2⟩ := h; exact ⟨xs, sh _ h1, h2.mono sf⟩)
    | (obtain ⟨xs, h1, h0, h2⟩ := h; exact ⟨xs, sh _ h1, h0, h2.mono sf⟩)
theorem In.call (I : In C F H σ env) (x : Ext F H F' H') : In C F' H' σ env := by
  have free : ∀ q o, F q = Option.none → H q = some o → F' q = Option.none := fun q o h1 h2 => by
    cases e : F' q with
    | none => rfl
    | some z =>
      rcases x.nf q z e with h | h
      · rw [h1] at h; cases h
      · rw [h2] at h; cases h
  refine ⟨I.f0.trans x.ff, x.fh, fun a o h hb => x.hh _ _ (I.fr a o h hb), fun a o h => ?_, I.len, fun i s h => ?_, I.ds, fun p hp z => ?_⟩
  · rcases x.nf a o h with h | h
    · exact I.nf a o h
    · exact .inr (I.none0 h)
  · obtain ⟨v, hv, hs⟩ := I.sl i s h
    refine ⟨v, hv, ?_⟩
    cases s with
    | frz d => exact Rep.mono x.ff hs
    | exn c => exact hs
    | own d =>
      obtain ⟨q, e, h1, h2, h3⟩ := hs
      obtain ⟨o, ho⟩ := h3.some
      exact ⟨q, e, free q o h1 ho, h2, h3.keep x.ff fun o h => x.hh _ _ h⟩
    | bor d =>
      obtain ⟨q, e, h1, h2, h3⟩ := hs
      obtain ⟨o, ho⟩ := h3.some
      exact ⟨q, e, free q o h1 ho, h2, h3.keep x.ff fun o h => x.hh _ _ h⟩
  · cases e : H p with
    | none => exact I.bs p hp e
    | some o => rw [x.hh _ _ e] at z; cases z
theorem Ext.refl {F H : Hp} (s : Same F H) : Ext F H F H := ⟨.refl _, s, .refl _, fun _ _ h => .inl h⟩
theorem In.extAlloc (I : In C F H σ env) {p : Addr} {o : HO} (n : H p = Option.none) : Ext F H (upd F p o) (upd H p o) := ⟨I.same n, (I.alloc n).fh, fun b x e => by rw [upd_ne (ne_of_none e n)]; exact e, fun a x h => by
  by_cases e : a = p
  · subst e; exact .inr n
  · rw [upd_ne e] at h; exact .inl h⟩
end
end Dd

namespace Dd
open PySem PySem.Spec PyProof.Rows L2
/-! ### readings over data -/
abbrev DE := DEnv → R DEnv (Sl × DEnv)
def ErOk (C : Cd) (F : Hp) (fs : List (Str × D)) (x : Option Addr) : Prop := match fs with
  | [] => x = none
  | f :: r => ∃ a xs, x = some a ∧ F a = some (.xd (((f :: r).map (·.1)).zip xs)) ∧ RepL C.K C.mg F ((f :: r).map (·.2)) xs
def Fin (C : Cd) (F : Hp) (σ : L2.St) {α : Type} (r : R DEnv (α × DEnv)) (P : α → DEnv → Hp → Hp → Prop) : Prop :=
  match r with
  | .ok p => ∀ F' H', In C F' H' σ p.2 → Same F F' → P p.1 p.2 F' H'
  | .er c fs e => C.rz = true ∧ ∀ x F' H', In C F' H' σ e → Same F F' → ErOk C F' fs x → C.W (.ref (clsA C.mg c)) x σ H'
  | .no => False
section
variable {C : Cd} {F F1 H : Hp} {σ : L2.St} {α β : Type} {r : R DEnv (α × DEnv)} {P P' : α → DEnv → Hp → Hp → Prop}
theorem Fin.le (s : Same F F1) (h : Fin C F σ r P) : Fin C F1 σ r P := by
  cases r with
  | ok p => exact fun F' H' I s' => h F' H' I (s.trans s')
  | er c fs e => exact ⟨h.1, fun x F' H' I s' k => h.2 x F' H' I (s.trans s') k⟩
  | no => exact h
theorem Fin.imp (h : Fin C F σ r P) (k : ∀ a e F' H', In C F' H' σ e → Same F F' → P a e F' H' → P' a e F' H') : Fin C F σ r P' := by
  cases r with
  | ok p => exact fun F' H' I s => k _ _ _ _ I s (h F' H' I s)
  | er c fs e => exact h
  | no => exact h
theorem Fin.bnd {k : α × DEnv → R DEnv (β × DEnv)} {P : β → DEnv → Hp → Hp → Prop} (h : Fin C F σ (r.bind k) P) : Fin C F σ r fun a e F' _ => Fin C F' σ (k (a, e)) P := by
  cases r with
  | ok p => exact fun F' H' I s => Fin.le s h
  | er c fs e => exact h
  | no => exact h
theorem Fin.here {a : α} {e : DEnv} (h : Fin C F σ (.ok (a, e)) P) (I : In C F H σ e) : P a e F H := h F H I (.refl _)
end
def Res (C : Cd) (F H : Hp) (env : DEnv) (σ : L2.St) : Sl → V → Prop
  | .frz d, v => Rep C.K C.mg F d v
  | .own d, v => ∃ p, v = .ref p ∧ Fresh C F H env σ d p
  | .bor _, _ => False
  | .exn _, _ => False
/-- an expression; one whose value is frozen -/
def tD (C : Cd) (f : DE) : TE := fun σ H Q => ∃ F env, In C F H σ env ∧ Fin C F σ (f env) fun s e F' H' => ∀ v, Res C F' H' e σ s v → Q v H'
def tDz (C : Cd) (f : DE) : TE := fun σ H Q => ∃ F env, In C F H σ env ∧ Fin C F σ (f env) fun s _ F' H' => ∀ v, Rep C.K C.mg F' s.d v → Q v H'
theorem PE.weak {X : Cx} {e : Expr} {t t' : TE} (h : PE X e t) (k : ∀ σ H Q, t' σ H Q → t σ H Q) : PE X e t' := ⟨fun pins s σ H Q I w => h.run pins s σ H Q I (k _ _ _ w)⟩
theorem PT.weak {X : Cx} {e : Expr} {t t' : TT} (h : PT X e t) (k : ∀ σ H Q, t' σ H Q → t σ H Q) : PT X e t' := ⟨fun pins s σ H Q I w => h.run pins s σ H Q I (k _ _ _ w)⟩
theorem PW.weak {X : Cx} {e : Expr} {t t' : TT} (h : PW X e t) (k : ∀ σ H Q, t' σ H Q → t σ H Q) : PW X e t' := ⟨fun w pins s σ H Q I z => h.run w pins s σ H Q I (k _ _ _ z)⟩
theorem PTs.weak {X : Cx} {e : List Expr} {t t' : TT} (h : PTs X e t) (k : ∀ σ H Q, t' σ H Q → t σ H Q) : PTs X e t' := ⟨fun pins s σ H Q I w => h.run pins s σ H Q I (k _ _ _ w)⟩
theorem PA.weak {X : Cx} {e : List Expr} {t t' : TA} (h : PA X e t) (k : ∀ σ H Q, t' σ H Q → t σ H Q) : PA X e t' := ⟨fun pos pins s σ H Q I w => h.run pos pins s σ H Q I (k _ _ _ w)⟩
theorem PK.weak {X : Cx} {e : List Keyword} {t t' : TA} (h : PK X e t) (k : ∀ σ H Q, t' σ H Q → t σ H Q) : PK X e t' := ⟨fun pos pins s σ H Q I w => h.run pos pins s σ H Q I (k _ _ _ w)⟩
theorem PS.weak {X : Cx} {e : Stmt} {t t' : TS} (h : PS X e t) (k : ∀ D σ H, t' D σ H → t D σ H) : PS X e t' := ⟨fun pins s σ H D I w => h.run pins s σ H D I (k _ _ _ w)⟩
theorem PSs.weak {X : Cx} {e : List Stmt} {t t' : TS} (h : PSs X e t) (k : ∀ D σ H, t' D σ H → t D σ H) : PSs X e t' := ⟨fun pins s σ H D I w => h.run pins s σ H D I (k _ _ _ w)⟩
theorem PG.weak {X : Cx} {e : Expr} {t t' : TG} (h : PG X e t) (k : ∀ v σ H Q, t' v σ H Q → t v σ H Q) : PG X e t' := ⟨fun pins s σ H v u Q I r w => h.run pins s σ H v u Q I r (k _ _ _ _ w)⟩
theorem PGs.weak {X : Cx} {e : List Expr} {t t' : TGs} (h : PGs X e t) (k : ∀ v σ H Q, t' v σ H Q → t v σ H Q) : PGs X e t' := ⟨fun pins s σ H v u Q I r w => h.run pins s σ H v u Q I r (k _ _ _ _ w)⟩
theorem PI.weak {X : Cx} {g e : Expr} {t t' : TI} (h : PI X g e t) (k : ∀ σ H Q, t' σ H Q → t σ H Q) : PI X g e t' := ⟨fun pins s σ H Q I w => h.run pins s σ H Q I (k _ _ _ w)⟩
theorem PO.weak {X : Cx} {e : Option Expr} {t t' : TO} (h : PO X e t) (k : ∀ σ H Q, t' σ H Q → t σ H Q) : PO X e t' := ⟨fun pins s σ H Q I w => h.run pins s σ H Q I (k _ _ _ w)⟩
structure Fit (X : Cx) (C : Cd) : Prop where
  k : X.K = C.K
  m : X.mg = C.mg
section
variable {X : Cx} {C : Cd} {e a b c : Expr} {es : List Expr} {f fa fb fc : DE} {pos : Pos}
theorem Fin.froz {σ : L2.St} {F : Hp} {r : R DEnv (Sl × DEnv)} {Q : VK} (h : Fin C F σ r fun s _ F' H' => ∀ v, Rep C.K C.mg F' s.d v → Q v H') : Fin C F σ r fun s e F' H' => ∀ v, Res C F' H' e σ s v → Q v H' := by
  cases r with
  | no => exact h
  | er c fs e => exact h
  | ok p =>
    obtain ⟨s, e⟩ := p
    intro F' H' I sm v r
    cases s with
    | frz d => exact h F' H' I sm v r
    | exn c => exact r.elim
    | own d =>
      obtain ⟨p, rfl, fr⟩ := r
      obtain ⟨o, ho⟩ := fr.o.some
      have sF : Same F' (upd F' p o) := fun b x e => by rw [upd_ne (ne_of_none e fr.f)]; exact e
      exact h _ H' (I.freeze ho fr.h0 fr.f fr.ne) (sm.trans sF) (.ref p) (fr.o.rep ho fr.f)
    | bor d => exact r.elim
theorem tz_t {σ : L2.St} {H : Hp} {Q : VK} : tDz C f σ H Q → tD C f σ H Q := fun ⟨F, env, I, h⟩ => ⟨F, env, I, h.froz⟩
theorem qz (h : PE X e (tD C f)) : PE X e (tDz C f) := PE.weak h fun σ H Q ⟨F, env, I, h⟩ => ⟨F, env, I, h.froz⟩
theorem Fin.val {F H : Hp} {σ : L2.St} {d : D} {e : DEnv} {v : V} {Q : VK} (h : Fin C F σ (.ok (.frz d, e)) fun s e F' H' => ∀ v, Res C F' H' e σ s v → Q v H') (I : In C F H σ e) (r : Rep C.K C.mg F d v) : Q v H := h F H I (.refl _) v r
/-! ### constants and names -/
def conD (d : D) : DE := fun env => .ok (.frz d, env)
theorem qe_con {d : D} {v : V} (r : ∀ F, Rep C.K C.mg F d v) (h : PE X e (tC v)) : PE X e (tD C (conD d)) :=
  PE.weak h fun σ H Q ⟨F, env, I, h⟩ => h.here I v (r F)
theorem qe_int {i : Int} {j pos} : PE X (.Constant (.int i) j pos) (tD C (conD (.int i))) := qe_con (fun _ => rInt) pe_int
theorem qe_bl {i : Bool} {j pos} : PE X (.Constant (.bool i) j pos) (tD C (conD (.bl i))) := qe_con (fun _ => rBl) pe_bl
theorem qe_str {i : Str} {j pos} : PE X (.Constant (.str i) j pos) (tD C (conD (.str i))) := qe_con (fun _ => rStr) pe_str
theorem qe_non {j pos} : PE X (.Constant .none j pos) (tD C (conD .non)) := qe_con (fun _ => rNon) pe_non
def nameD (i : Nat) : DE := fun env => match env[i]? with
  | some (some (.frz d)) => .ok (.frz d, env)
  | some (some (.own d)) => .ok (.frz d, env.set i (some (.frz d)))
  | _ => .no
theorem In.frzSlot {F H : Hp} {σ : L2.St} {env : DEnv} (I : In C F H σ env) {i : Nat} {d : D} (hi : env[i]? = some (some (.own d))) : ∃ v F', σ[i]? = some (some v) ∧ In C F' H σ (env.set i (some (.frz d))) ∧ Same F F' ∧ Rep C.K C.mg F' d v := by
  obtain ⟨v, hv, p, rfl, h1, h2, h3⟩ := I.sl i _ hi
  obtain ⟨o, ho⟩ := h3.some
  have I1 : In C F H σ (env.set i .none) := by
    have q := I.drop i (some (.ref p))
    have e : σ.set i (some (.ref p)) = σ := by
      apply List.ext_getElem?
      intro j
      by_cases e : i = j
      · subst e
        rw [List.getElem?_set_self (List.getElem?_eq_some_iff.mp hv).1, hv]
      · rw [List.getElem?_set_ne e]
    rw [e] at q
    exact q
  have ne : ∀ (j : Nat) (s : Sl), (env.set i .none)[j]? = some (some s) → s.mut = true → σ[j]? ≠ some (some (.ref p)) := by
    intro j s hj ms hz
    by_cases e : i = j
    · subst e
      obtain ⟨_, es⟩ := set_self hj
      cases es
    · rw [List.getElem?_set_ne e] at hj
      exact e (I.ds i j _ s p hi hj rfl ms hv hz)
  have I2 := I1.freeze ho h2 h1 ne
  have r := h3.rep ho h1
  have I3 := I2.put (i := i) r
  have e : σ.set i (some (.ref p)) = σ := by
    apply List.ext_getElem?
    intro j
    by_cases e : i = j
    · subst e
      rw [List.getElem?_set_self (List.getElem?_eq_some_iff.mp hv).1, hv]
    · rw [List.getElem?_set_ne e]
  rw [e, List.set_set] at I3
  exact ⟨_, _, hv, I3, fun b x e => by rw [upd_ne (ne_of_none e h1)]; exact e, r⟩
theorem qe_name {i : Nat} (h : PE X e (tVar i)) : PE X e (tD C (nameD i)) := PE.weak h fun σ H Q ⟨F, env, I, h⟩ => by
  unfold nameD at h
  cases e : env[i]? with
  | none => rw [e] at h; exact h.elim
  | some o =>
    rw [e] at h
    cases o with
    | none => exact h.elim
    | some s =>
      cases s with
      | frz d =>
        obtain ⟨v, hv, r⟩ := I.sl i _ e
        exact ⟨v, hv, h.here I v r⟩
      | own d =>
        obtain ⟨v, F', hv, I', s, r⟩ := I.frzSlot e
        exact ⟨v, hv, h F' H I' s v r⟩
      | bor d => exact h.elim
      | exn c => exact h.elim
/-! ### operations on data -/
def lift1 (g : D → Option Sl) (fa : DE) : DE := fun env => (fa env).bind fun p => match g p.1.d with
  | some s => .ok (s, p.2)
  | none => .no
def lift2 (g : D → D → Option Sl) (fa fb : DE) : DE := fun env => (fa env).bind fun p => (fb p.2).bind fun q => match g p.1.d q.1.d with
  | some s => .ok (s, q.2)
  | none => .no
def UnOk (C : Cd) (r : V → Hp → VK → Prop) (g : D → Option Sl) : Prop := ∀ F H σ env x d s (Q : VK), In C F H σ env → Rep C.K C.mg F d x → g d = some s →
  (∀ v F' H', In C F' H' σ env → Same F F' → Res C F' H' env σ s v → Q v H') → r x H Q
def OpOk (C : Cd) (r : R2) (g : D → D → Option Sl) : Prop := ∀ F H σ env x y d e s (Q : VK), In C F H σ env → Rep C.K C.mg F d x → Rep C.K C.mg F e y → g d e = some s →
  (∀ v F' H', In C F' H' σ env → Same F F' → Res C F' H' env σ s v → Q v H') → r x y H Q
theorem t_un {r : V → Hp → VK → Prop} {g : D → Option Sl} (ok : UnOk C r g) {σ : L2.St} {H : Hp} {Q : VK} : tD C (lift1 g fa) σ H Q → tUn r (tDz C fa) σ H Q := fun ⟨F, env, I, h⟩ =>
  ⟨F, env, I, (Fin.bnd h).imp fun s e F1 H1 I1 s1 h1 x rx => by
    cases eg : g s.d with
    | none => simp only [eg] at h1; exact h1.elim
    | some z => simp only [eg] at h1; exact ok F1 H1 σ e x _ z Q I1 rx eg fun v F' H' I' s' r' => h1 F' H' I' s' v r'⟩
theorem t_op {r : R2} {g : D → D → Option Sl} (ok : OpOk C r g) {σ : L2.St} {H : Hp} {Q : VK} : tD C (lift2 g fa fb) σ H Q → tOp r (tDz C fa) (tDz C fb) σ H Q := fun ⟨F, env, I, h⟩ =>
  ⟨F, env, I, (Fin.bnd h).imp fun s e F1 H1 I1 s1 h1 x rx => ⟨F1, e, I1, (Fin.bnd h1).imp fun s2 e2 F2 H2 I2 s2' h2 y ry => by
    cases eg : g s.d s2.d with
    | none => simp only [eg] at h2; exact h2.elim
    | some z => simp only [eg] at h2; exact ok F2 H2 σ e2 x y _ _ z Q I2 (rx.mono s2') ry eg fun v F' H' I' s' r' => h2 F' H' I' s' v r'⟩⟩
theorem qe_op {op : Operator} {r : R2} {g : D → D → Option Sl} (ho : OpR X (binaryOp op) r) (ok : OpOk C r g) (ha : PE X a (tD C fa)) (hb : PE X b (tD C fb)) : PE X (.BinOp a op b pos) (tD C (lift2 g fa fb)) :=
  PE.weak (pe_op ho (qz ha) (qz hb)) fun _ _ _ h => t_op ok h
theorem qe_un {op : UnaryOp} {r : V → Hp → VK → Prop} {g : D → Option Sl} (ho : UnR X (unaryOp op) r) (ok : UnOk C r g) (ha : PE X a (tD C fa)) : PE X (.UnaryOp op a pos) (tD C (lift1 g fa)) :=
  PE.weak (pe_un ho (qz ha)) fun _ _ _ h => t_un ok h
theorem qe_cmp {op : CmpOp} {r : R2} {g : D → D → Option Sl} (ho : OpR X (compareOp op) r) (ok : OpOk C r g) (ha : PE X a (tD C fa)) (hb : PE X b (tD C fb)) (hm : behindInMarks op b = false) : PE X (.Compare a [op] [b] pos) (tD C (lift2 g fa fb)) :=
  PE.weak (pe_cmpR ho (qz ha) (qz hb) hm) fun _ _ _ h => t_op ok h
theorem OpR.or {f : Value → Value → Sem Value} {r r' : R2} (h : OpR X f r) (h' : OpR X f r') : OpR X f (fun x y H Q => r x y H Q ∨ r' x y H Q) := fun pins s σ H x y v u Q I rx ry q =>
  q.elim (h pins s σ H x y v u Q I rx ry) (h' pins s σ H x y v u Q I rx ry)
/-! ### tests -/
abbrev DT := DEnv → R DEnv (Bool × DEnv)
def tDT (C : Cd) (f : DT) : TT := fun σ H Q => ∃ F env, In C F H σ env ∧ Fin C F σ (f env) fun b _ _ H' => Q b H'
def boolT (f : DE) : DT := fun env => (f env).bind fun p => match p.1.d with
  | .bl b => .ok (b, p.2)
  | _ => .no
theorem t_bool {σ : L2.St} {H : Hp} {Q : Bool → Hp → Prop} {ft : DE} : tDT C (boolT ft) σ H Q → tDz C ft σ H (fun x H' => ∃ k, x = .bl k ∧ Q k H') := fun ⟨F, env, I, h⟩ =>
  ⟨F, env, I, (Fin.bnd h).imp fun s e F1 H1 I1 s1 h1 x rx => by
    cases ed : s.d with
    | bl b => simp only [ed] at h1 rx; exact ⟨b, rx.bl, h1.here I1⟩
    | _ => simp only [ed] at h1; exact h1.elim⟩
theorem qt_val (h : PE X e (tD C f)) (he : ∀ whole, isTrue e X.env whole = (do let v ← whole; standAt e.pos; holding [v] (truthy v)) := by intro _; rfl) : PT X e (tDT C (boolT f)) :=
  PT.weak (pt_val (qz h) he) fun _ _ _ h => t_bool h
theorem qt_cmp {op : CmpOp} {r : R2} {g : D → D → Option Sl} (ho : OpR X (compareOp op) r) (ok : OpOk C r g) (ha : PE X a (tD C fa)) (hb : PE X b (tD C fb)) (hm : behindInMarks op b = false) : PT X (.Compare a [op] [b] pos) (tDT C (boolT (lift2 g fa fb))) :=
  PT.weak (pt_cmpR ho (qz ha) (qz hb) hm) fun σ H Q h => t_op ok (tz_t (t_bool h))
def andT (f g : DT) : DT := fun env => (f env).bind fun p => match p.1 with
  | true => g p.2
  | false => .ok (false, p.2)
def orT (f g : DT) : DT := fun env => (f env).bind fun p => match p.1 with
  | true => .ok (true, p.2)
  | false => g p.2
def notT (f : DT) : DT := fun env => (f env).bind fun p => .ok (!p.1, p.2)
section
variable {f g : DT} {rest : List Expr}
theorem qw_and1 (h : PT X a (tDT C f)) : PW X (.BoolOp .And [a] pos) (tDT C f) := pw_and1 h
theorem qw_or1 (h : PT X a (tDT C f)) : PW X (.BoolOp .Or [a] pos) (tDT C f) := pw_or1 h
theorem qw_and (h : PT X a (tDT C f)) (h2 : PW X (.BoolOp .And (b :: rest) pos) (tDT C g)) : PW X (.BoolOp .And (a :: b :: rest) pos) (tDT C (andT f g)) :=
  PW.weak (pw_and h h2) fun σ H Q ⟨F, env, I, h⟩ => ⟨F, env, I, (Fin.bnd h).imp fun b e F1 H1 I1 s1 h1 => by
    cases b with
    | true => exact iteT ⟨F1, e, I1, h1⟩
    | false => exact iteF (h1.here I1)⟩
theorem qw_or (h : PT X a (tDT C f)) (h2 : PW X (.BoolOp .Or (b :: rest) pos) (tDT C g)) : PW X (.BoolOp .Or (a :: b :: rest) pos) (tDT C (orT f g)) :=
  PW.weak (pw_or h h2) fun σ H Q ⟨F, env, I, h⟩ => ⟨F, env, I, (Fin.bnd h).imp fun b e F1 H1 I1 s1 h1 => by
    cases b with
    | true => exact iteT (h1.here I1)
    | false => exact iteF ⟨F1, e, I1, h1⟩⟩
theorem qt_not (h : PT X a (tDT C f)) : PT X (.UnaryOp .Not a pos) (tDT C (notT f)) :=
  PT.weak (pt_not h) fun σ H Q ⟨F, env, I, h⟩ => ⟨F, env, I, (Fin.bnd h).imp fun b e F1 H1 I1 s1 h1 => h1.here I1⟩
end
/-! ### and, or, not, if as values -/
def andV (fa fb : DE) : DE := fun env => (fa env).bind fun p => match p.1.d with
  | .bl true => fb p.2
  | .bl false => .ok (.frz (.bl false), p.2)
  | _ => .no
def orV (fa fb : DE) : DE := fun env => (fa env).bind fun p => match p.1.d with
  | .bl true => .ok (.frz (.bl true), p.2)
  | .bl false => fb p.2
  | _ => .no
def notV (fa : DE) : DE := fun env => (fa env).bind fun p => match p.1.d with
  | .bl b => .ok (.frz (.bl (!b)), p.2)
  | _ => .no
def ifV (c : DT) (fa fb : DE) : DE := fun env => (c env).bind fun p => match p.1 with
  | true => fa p.2
  | false => fb p.2
section
variable {rest : List Expr}
theorem qe_one {op} (h : PE X a (tD C f)) : PE X (.BoolOp op [a] pos) (tD C f) := pe_one h
theorem qe_and (h : PE X a (tD C fa)) (h2 : PE X (.BoolOp .And (b :: rest) pos) (tD C fb)) : PE X (.BoolOp .And (a :: b :: rest) pos) (tD C (andV fa fb)) :=
  PE.weak (pe_and (qz h) h2) fun σ H Q ⟨F, env, I, h⟩ => ⟨F, env, I, (Fin.bnd h).imp fun s e F1 H1 I1 s1 h1 x rx => by
    cases ed : s.d with
    | bl b =>
      simp only [ed] at h1 rx
      cases b with
      | true => exact ⟨true, rx.bl, iteT ⟨F1, e, I1, h1⟩⟩
      | false => exact ⟨false, rx.bl, iteF (Fin.val h1 I1 rBl)⟩
    | _ => simp only [ed] at h1; exact h1.elim⟩
theorem qe_or (h : PE X a (tD C fa)) (h2 : PE X (.BoolOp .Or (b :: rest) pos) (tD C fb)) : PE X (.BoolOp .Or (a :: b :: rest) pos) (tD C (orV fa fb)) :=
  PE.weak (pe_or (qz h) h2) fun σ H Q ⟨F, env, I, h⟩ => ⟨F, env, I, (Fin.bnd h).imp fun s e F1 H1 I1 s1 h1 x rx => by
    cases ed : s.d with
    | bl b =>
      simp only [ed] at h1 rx
      cases b with
      | true => exact ⟨true, rx.bl, iteT (Fin.val h1 I1 rBl)⟩
      | false => exact ⟨false, rx.bl, iteF ⟨F1, e, I1, h1⟩⟩
    | _ => simp only [ed] at h1; exact h1.elim⟩
theorem qe_not (h : PE X a (tD C fa)) : PE X (.UnaryOp .Not a pos) (tD C (notV fa)) :=
  PE.weak (pe_not (qz h)) fun σ H Q ⟨F, env, I, h⟩ => ⟨F, env, I, (Fin.bnd h).imp fun s e F1 H1 I1 s1 h1 x rx => by
    cases ed : s.d with
    | bl b => simp only [ed] at h1 rx; exact ⟨b, rx.bl, Fin.val h1 I1 rBl⟩
    | _ => simp only [ed] at h1; exact h1.elim⟩
theorem qe_if {g : DT} (hc : PT X c (tDT C g)) (ha : PE X a (tD C fa)) (hb : PE X b (tD C fb)) : PE X (.IfExp c a b pos) (tD C (ifV g fa fb)) :=
  PE.weak (pe_ifExp hc ha hb) fun σ H Q ⟨F, env, I, h⟩ => ⟨F, env, I, (Fin.bnd h).imp fun b e F1 H1 I1 s1 h1 => by
    cases b with
    | true => exact iteT ⟨F1, e, I1, h1⟩
    | false => exact iteF ⟨F1, e, I1, h1⟩⟩
end
/-! ### arguments, displays -/
def argsD : List DE → DEnv → R DEnv (List D × DEnv)
  | [], env => .ok ([], env)
  | f :: fs, env => (f env).bind fun p => (argsD fs p.2).bind fun q => .ok (p.1.d :: q.1, q.2)
def tDA (C : Cd) (fs : List DE) : TA := fun σ H Q => ∃ F env, In C F H σ env ∧ Fin C F σ (argsD fs env) fun ds _ F' H' => ∀ vs, RepL C.K C.mg F' ds vs → Q vs H'
section
variable {fs : List DE}
theorem ta_nil {σ : L2.St} {H : Hp} {Q : List V → Hp → Prop} : tDA C [] σ H Q → tNil σ H Q := fun ⟨F, env, I, h⟩ => h.here I [] repNil
theorem ta_cons {σ : L2.St} {H : Hp} {Q : List V → Hp → Prop} : tDA C (f :: fs) σ H Q → tCons (tDz C f) (tDA C fs) σ H Q := fun ⟨F, env, I, h⟩ =>
  ⟨F, env, I, (Fin.bnd h).imp fun s e F1 H1 I1 s1 h1 x rx => ⟨F1, e, I1, (Fin.bnd h1).imp fun ds e2 F2 H2 I2 s2 h2 vs rv => h2.here I2 _ (repCons (rx.mono s2) rv)⟩⟩
theorem qa_nil : PA X [] (tDA C []) := PA.weak pa_nil fun _ _ _ h => ta_nil h
theorem qa_cons (h : PE X e (tD C f)) (hs : PA X es (tDA C fs)) (hx : starEach (e :: es) X.env = (false, eval e X.env) :: starEach es X.env := by rfl) : PA X (e :: es) (tDA C (f :: fs)) := PA.weak (pa_cons (qz h) hs hx) fun _ _ _ h => ta_cons h
theorem qk_nil : PK X [] (tDA C []) := PK.weak pk_nil fun _ _ _ h => ta_nil h
theorem qk_cons {n : Option Str} {kp : Pos} {kws : List Keyword} (h : PE X e (tD C f)) (hs : PK X kws (tDA C fs)) : PK X (⟨n, e, kp⟩ :: kws) (tDA C (f :: fs)) := PK.weak (pk_cons (qz h) hs) fun _ _ _ h => ta_cons h
end
theorem argsD_len : ∀ {fs : List DE} {env : DEnv} {p : List D × DEnv}, argsD fs env = .ok p → p.1.length = fs.length
  | [], env, p, h => by cases h; rfl
  | f :: fs, env, p, h => by
    unfold argsD at h
    cases e : f env with
    | ok q =>
      rw [e] at h
      cases e2 : argsD fs q.2 with
      | ok r =>
        simp only [R.bind_ok, e2] at h
        cases h
        simp [argsD_len e2]
      | er c x y => simp only [R.bind_ok, e2, R.bind_er] at h; cases h
      | no => simp only [R.bind_ok, e2, R.bind_no] at h; cases h
    | er c x y => rw [e] at h; cases h
    | no => rw [e] at h; cases h
def lstD (fs : List DE) : DE := fun env => (argsD fs env).bind fun p => .ok (.own (.lst p.1), p.2)
def tupD (fs : List DE) : DE := fun env => (argsD fs env).bind fun p => .ok (.frz (.tup p.1), p.2)
theorem In.newList {F H : Hp} {σ : L2.St} {env : DEnv} (I : In C F H σ env) {p : Addr} {xs : List V} {ds : List D} (n : H p = .none) (r : RepL C.K C.mg F ds xs) : In C F (upd H p (.lst xs)) σ env ∧ Fresh C F (upd H p (.lst xs)) env σ (.lst ds) p := by
  refine ⟨I.fresh n, I.none n, I.none0 n, ⟨xs, upd_same, r⟩, fun i s hi ms hz => ?_⟩
  obtain ⟨v, hv, hs⟩ := I.sl i s hi
  rw [hv] at hz
  cases hz
  cases s with
  | frz d => cases ms
  | exn c => cases ms
  | own d =>
    obtain ⟨q, e, h1, h2, h3⟩ := hs
    cases e
    obtain ⟨o, ho⟩ := h3.some
    rw [ho] at n
    cases n
  | bor d =>
    obtain ⟨q, e, h1, h2, h3⟩ := hs
    cases e
    obtain ⟨o, ho⟩ := h3.some
    rw [ho] at n
    cases n
theorem qe_lst {fs : List DE} (ha : PA X es (tDA C fs)) (hl : fs.length ≤ sizeLine := by decide) : PE X (.List es pos) (tD C (lstD fs)) :=
  PE.weak (pe_lst ha) fun σ H Q ⟨F, env, I, h⟩ => ⟨F, env, I, by
    unfold lstD at h
    cases e : argsD fs env with
    | no => rw [e] at h; exact h
    | er c x y => rw [e] at h; exact h
    | ok p =>
      rw [e] at h
      intro F' H' I' s' vs rv
      refine ⟨by rw [rv.len, argsD_len e]; exact hl, fun q nq => ?_⟩
      obtain ⟨I2, fr⟩ := I'.newList nq rv
      exact h _ _ I2 s' _ ⟨q, rfl, fr⟩⟩
theorem qe_tup {fs : List DE} {cx} (ha : PA X es (tDA C fs)) (hl : fs.length ≤ sizeLine := by decide) : PE X (.Tuple es cx pos) (tD C (tupD fs)) :=
  PE.weak (pe_tup ha) fun σ H Q ⟨F, env, I, h⟩ => ⟨F, env, I, by
    unfold tupD at h
    cases e : argsD fs env with
    | no => rw [e] at h; exact h
    | er c x y => rw [e] at h; exact h
    | ok p =>
      rw [e] at h
      intro F' H' I' s' vs rv
      refine ⟨by rw [rv.len, argsD_len e]; exact hl, fun q nq => ?_⟩
      have sF := I'.same (o := .tup vs) nq
      exact h _ _ (I'.alloc nq) (s'.trans sF) _ (Rep.ofTup upd_same (rv.mono sF))⟩
end
end Dd

namespace Dd
open PySem PySem.Spec PyProof.Rows L2
/-! ### statements -/
inductive Out where
  | nx (e : DEnv)
  | rt (s : Sl) (e : DEnv)
  | bk (e : DEnv)
  | ct (e : DEnv)
abbrev DS := DEnv → R DEnv Out
def FinS (C : Cd) (F : Hp) (r : R DEnv Out) (T : Ends) : Prop := match r with
  | .ok (.nx e) => ∀ σ F' H', In C F' H' σ e → Same F F' → T.nx σ H'
  | .ok (.rt s e) => ∀ v σ F' H', In C F' H' σ e → Same F F' → Res C F' H' e σ s v → T.rt v H'
  | .ok (.bk e) => ∀ σ F' H', In C F' H' σ e → Same F F' → T.bk σ H'
  | .ok (.ct e) => ∀ σ F' H', In C F' H' σ e → Same F F' → T.ct σ H'
  | .er c fs e => C.rz = true ∧ ∀ x σ F' H', In C F' H' σ e → Same F F' → ErOk C F' fs x → C.W (.ref (clsA C.mg c)) x σ H'
  | .no => False
theorem FinS.le {C : Cd} {F F1 : Hp} {r : R DEnv Out} {T : Ends} (s : Same F F1) (h : FinS C F r T) : FinS C F1 r T := by
  cases r with
  | ok o =>
    cases o with
    | nx e => exact fun σ F' H' I s' => h σ F' H' I (s.trans s')
    | rt z e => exact fun v σ F' H' I s' => h v σ F' H' I (s.trans s')
    | bk e => exact fun σ F' H' I s' => h σ F' H' I (s.trans s')
    | ct e => exact fun σ F' H' I s' => h σ F' H' I (s.trans s')
  | er c fs e => exact ⟨h.1, fun x σ F' H' I s' k => h.2 x σ F' H' I (s.trans s') k⟩
  | no => exact h
def tDS (C : Cd) (g : DS) : TS := fun T σ H => ∃ F env, In C F H σ env ∧ FinS C F (g env) T
/-- from an expression into a statement -/
def bindS {α : Type} (r : R DEnv (α × DEnv)) (k : α × DEnv → R DEnv Out) : R DEnv Out := match r with
  | .ok p => k p
  | .er c fs e => .er c fs e
  | .no => .no
@[simp] theorem bindS_ok {α : Type} (a : α × DEnv) (k : α × DEnv → R DEnv Out) : bindS (.ok a) k = k a := rfl
@[simp] theorem bindS_er {α : Type} (c : Str) (fs : List (Str × D)) (e : DEnv) (k : α × DEnv → R DEnv Out) : bindS (.er c fs e) k = .er c fs e := rfl
@[simp] theorem bindS_no {α : Type} (k : α × DEnv → R DEnv Out) : bindS (.no) k = .no := rfl
theorem FinS.bnd {C : Cd} {F : Hp} {σ : L2.St} {α : Type} {r : R DEnv (α × DEnv)} {k : α × DEnv → R DEnv Out} {T : Ends} (h : FinS C F (bindS r k) T) : Fin C F σ r fun a e F' _ => FinS C F' (k (a, e)) T := by
  cases r with
  | ok p => exact fun F' H' I s => FinS.le s h
  | er c fs e => exact ⟨h.1, fun x F' H' I s k => h.2 x σ F' H' I s k⟩
  | no => exact h
section
variable {X : Cx} {C : Cd} {e a b c : Expr} {es : List Expr} {st : Stmt} {rest : List Stmt} {f fa fb : DE} {g g1 g2 : DS} {pos : Pos}
def nextD : DS := fun env => .ok (.nx env)
def seqD (g1 g2 : DS) : DS := fun env => match g1 env with
  | .ok (.nx e) => g2 e
  | r => r
theorem qss_nil : PSs X [] (tDS C nextD) := PSs.weak pss_nil fun T σ H ⟨F, env, I, h⟩ => h σ F H I (.refl _)
theorem qss_one (h : PS X st (tDS C g)) : PSs X [st] (tDS C g) := pss_one h
theorem qss_cons (h1 : PS X st (tDS C g1)) (h2 : PSs X rest (tDS C g2)) : PSs X (st :: rest) (tDS C (seqD g1 g2)) := PSs.weak (pss_cons h1 h2) fun T σ H ⟨F, env, I, h⟩ => ⟨F, env, I, by
  unfold seqD at h
  cases e : g1 env with
  | no => rw [e] at h; exact h
  | er c fs x => rw [e] at h; exact h
  | ok o =>
    rw [e] at h
    cases o with
    | nx x => exact fun σ' F' H' I' s' => ⟨F', x, I', FinS.le s' h⟩
    | rt z x => exact h
    | bk x => exact h
    | ct x => exact h⟩
def exprD (f : DE) : DS := fun env => bindS (f env) fun p => .ok (.nx p.2)
theorem qs_expr (he : PE X e (tD C f)) (hs : swapsWith e none pos.line X.env = pure false := by rfl) : PS X (.Expr e pos) (tDS C (exprD f)) :=
  PS.weak (ps_expr (qz he) hs) fun T σ H ⟨F, env, I, h⟩ => ⟨F, env, I, (FinS.bnd h).imp fun s e F1 H1 I1 s1 h1 v _ => h1 σ F1 H1 I1 (.refl _)⟩
theorem qs_doc {x j pos pos'} : PS X (.Expr (.Constant (.str x) j pos) pos') (tDS C nextD) := PS.weak ps_doc fun T σ H ⟨F, env, I, h⟩ => h σ F H I (.refl _)
theorem qs_pass : PS X (.Pass pos) (tDS C nextD) := PS.weak ps_pass fun T σ H ⟨F, env, I, h⟩ => h σ F H I (.refl _)
def brkD : DS := fun env => .ok (.bk env)
def contD : DS := fun env => .ok (.ct env)
theorem qs_break : PS X (.Break pos) (tDS C brkD) := PS.weak ps_break fun T σ H ⟨F, env, I, h⟩ => h σ F H I (.refl _)
theorem qs_cont : PS X (.Continue pos) (tDS C contD) := PS.weak ps_continue fun T σ H ⟨F, env, I, h⟩ => h σ F H I (.refl _)
def retD (f : DE) : DS := fun env => bindS (f env) fun p => .ok (.rt p.1 p.2)
theorem qs_ret (he : PE X e (tD C f)) : PS X (.Return (some e) pos) (tDS C (retD f)) :=
  PS.weak (ps_ret he) fun T σ H ⟨F, env, I, h⟩ => ⟨F, env, I, (FinS.bnd h).imp fun s e F1 H1 I1 s1 h1 v r => h1 v σ F1 H1 I1 (.refl _) r⟩
def retND : DS := fun env => .ok (.rt (.frz .non) env)
theorem qs_retN : PS X (.Return none pos) (tDS C retND) := PS.weak ps_retN fun T σ H ⟨F, env, I, h⟩ => h .non σ F H I (.refl _) (show Rep C.K C.mg F .non .non from rNon)
def retNameD (i : Nat) : DS := fun env => match env[i]? with
  | some (some (.frz d)) => .ok (.rt (.frz d) env)
  | some (some (.own d)) => .ok (.rt (.own d) (env.set i none))
  | _ => .no
theorem set_id {α : Type} {l : List α} {i : Nat} {x : α} (h : l[i]? = some x) : l.set i x = l := by
  apply List.ext_getElem?
  intro j
  by_cases e : i = j
  · subst e
    rw [List.getElem?_set_self (List.getElem?_eq_some_iff.mp h).1, h]
  · rw [List.getElem?_set_ne e]
theorem In.lift {F H : Hp} {σ : L2.St} {env : DEnv} (I : In C F H σ env) {i : Nat} {d : D} (hi : env[i]? = some (some (.own d))) : ∃ p, σ[i]? = some (some (.ref p)) ∧ In C F H σ (env.set i .none) ∧ Fresh C F H (env.set i .none) σ d p := by
  obtain ⟨v, hv, p, rfl, h1, h2, h3⟩ := I.sl i _ hi
  have q := I.drop i (some (.ref p))
  rw [set_id hv] at q
  refine ⟨p, hv, q, h1, h2, h3, ?_⟩
  intro j s hj ms hz
  by_cases e : i = j
  · subst e
    obtain ⟨_, es⟩ := set_self hj
    cases es
  · rw [List.getElem?_set_ne e] at hj
    exact e (I.ds i j _ s p hi hj rfl ms hv hz)
theorem qs_retName {i : Nat} (he : PE X e (tVar i)) : PS X (.Return (some e) pos) (tDS C (retNameD i)) :=
  PS.weak (ps_ret he) fun T σ H ⟨F, env, I, h⟩ => by
    unfold retNameD at h
    cases e : env[i]? with
    | none => rw [e] at h; exact h.elim
    | some o =>
      rw [e] at h
      cases o with
      | none => exact h.elim
      | some s =>
        cases s with
        | frz d =>
          obtain ⟨v, hv, r⟩ := I.sl i _ e
          exact ⟨v, hv, h v σ F H I (.refl _) r⟩
        | own d =>
          obtain ⟨p, hv, I', fr⟩ := I.lift e
          exact ⟨_, hv, h _ σ F H I' (.refl _) ⟨p, rfl, fr⟩⟩
        | bor d => exact h.elim
        | exn c => exact h.elim
def ifD (c : DT) (g1 g2 : DS) : DS := fun env => bindS (c env) fun p => match p.1 with
  | true => g1 p.2
  | false => g2 p.2
theorem qs_if {t : DT} {ss ss' : List Stmt} (hc : PT X c (tDT C t)) (ha : PSs X ss (tDS C g1)) (hb : PSs X ss' (tDS C g2)) : PS X (.If c ss ss' pos) (tDS C (ifD t g1 g2)) :=
  PS.weak (ps_if hc ha hb) fun T σ H ⟨F, env, I, h⟩ => ⟨F, env, I, (FinS.bnd h).imp fun b e F1 H1 I1 s1 h1 => by
    cases b with
    | true => exact iteT ⟨F1, e, I1, h1⟩
    | false => exact iteF ⟨F1, e, I1, h1⟩⟩
/-- x = e -/
def setD (i : Nat) (f : DE) : DS := fun env => bindS (f env) fun p => .ok (.nx (p.2.set i (some p.1)))
theorem In.assign {F H : Hp} {σ : L2.St} {env : DEnv} (I : In C F H σ env) {i : Nat} {s : Sl} {v : V} (r : Res C F H env σ s v) : In C F H (σ.set i (some v)) (env.set i (some s)) := by
  cases s with
  | frz d => exact I.put r
  | exn c => exact r.elim
  | own d =>
    obtain ⟨p, rfl, fr⟩ := r
    exact I.putOwn fr
  | bor d => exact r.elim
theorem t_set {i : Nat} {T : Ends} {σ : L2.St} {H : Hp} : tDS C (setD i f) T σ H → tAsg (tD C f) (gName i) T σ H := fun ⟨F, env, I, h⟩ =>
  ⟨F, env, I, (FinS.bnd h).imp fun s e F1 H1 I1 s1 h1 v r => h1 _ F1 H1 (I1.assign r) (.refl _)⟩
theorem qs_set {i : Nat} {x : Str} {pos' : Pos} (hN : X.N.Nodup) (hi : X.N[i]? = some x) (hx : Loc X.env.scope x) (he : PE X e (tD C f)) (hs : swapsWith e (some (.Name x pos')) pos.line X.env = pure false := by rfl) (hf : X.fn x = true ∨ X.env.scope.names.lookup x = some .local := by first | exact .inl rfl | exact .inr rfl | assumption) :
    PS X (.Assign [.Name x pos'] e pos) (tDS C (setD i f)) := PS.weak (ps_set hN hi hx he hs hf) fun _ _ _ h => t_set h
/-- targets -/
abbrev DG := D → DEnv → Option DEnv
/-- all slots but those are as they were -/
def Agree (ts : List Nat) (σ σ' : L2.St) : Prop := σ'.length = σ.length ∧ ∀ i : Nat, i ∉ ts → σ'[i]? = σ[i]?
def tDG (C : Cd) (ts : List Nat) (g : DG) : TG := fun v σ H Q => ∃ F env d e, In C F H σ env ∧ Rep C.K C.mg F d v ∧ g d env = some e ∧ ∀ σ' F' H', In C F' H' σ' e → Same F F' → Agree ts σ σ' → Q σ' H'
def tDGs (C : Cd) (ts : List Nat) (g : List D → DEnv → Option DEnv) : TGs := fun vs σ H Q => ∃ F env ds e, In C F H σ env ∧ RepL C.K C.mg F ds vs ∧ g ds env = some e ∧ ∀ σ' F' H', In C F' H' σ' e → Same F F' → Agree ts σ σ' → Q σ' H'
def gNameD (i : Nat) : DG := fun d env => some (env.set i (some (.frz d)))
def gNilD : List D → DEnv → Option DEnv := fun ds env => match ds with
  | [] => some env
  | _ => none
def gConsD (g : DG) (gs : List D → DEnv → Option DEnv) : List D → DEnv → Option DEnv := fun ds env => match ds with
  | [] => none
  | d :: r => match g d env with
    | some e => gs r e
    | none => none
def gTupD (n : Nat) (gs : List D → DEnv → Option DEnv) : DG := fun d env => match d with
  | .tup ds => if ds.length = n then gs ds env else none
  | _ => none
theorem qg_name {i : Nat} {x : Str} (hN : X.N.Nodup) (hi : X.N[i]? = some x) (hx : Loc X.env.scope x) (hf : X.fn x = true ∨ X.env.scope.names.lookup x = some .local := by first | exact .inl rfl | exact .inr rfl | assumption) : PG X (.Name x pos) (tDG C [i] (gNameD i)) :=
  PG.weak (pg_name hN hi hx hf) fun v σ H Q ⟨F, env, d, e, I, r, hg, h⟩ => by
    cases hg
    exact h _ F H (I.put r) (.refl _) ⟨List.length_set, fun j hj => List.getElem?_set_ne (fun z => hj (by simp [z]))⟩
theorem qgs_nil : PGs X [] (tDGs C [] gNilD) := PGs.weak pgs_nil fun vs σ H Q ⟨F, env, ds, e, I, r, hg, h⟩ => by
  cases ds with
  | nil =>
    cases hg
    exact ⟨r.nil, h σ F H I (.refl _) ⟨rfl, fun _ _ => rfl⟩⟩
  | cons d r => cases hg
theorem qgs_cons {g : DG} {gs : List D → DEnv → Option DEnv} {t1 t2 : List Nat} (h1 : PG X e (tDG C t1 g)) (h2 : PGs X es (tDGs C t2 gs)) (hs : (assignEach (e :: es) X.env).map (·.2) = assign e X.env :: (assignEach es X.env).map (·.2) := by rfl) : PGs X (e :: es) (tDGs C (t1 ++ t2) (gConsD g gs)) :=
  PGs.weak (pgs_cons h1 h2 hs) fun vs σ H Q ⟨F, env, ds, e, I, r, hg, h⟩ => by
    cases ds with
    | nil => cases hg
    | cons d ds =>
      obtain ⟨x, r', rfl, rx, rr⟩ := r.cons
      unfold gConsD at hg
      cases e1 : g d env with
      | none => simp only [e1] at hg; cases hg
      | some e1' =>
        simp only [e1] at hg
        exact ⟨x, r', rfl, F, env, d, e1', I, rx, e1, fun σ' F' H' I' s' ag => ⟨F', e1', ds, e, I', rr.mono s', hg, fun σ2 F2 H2 I2 s2 ag2 => h σ2 F2 H2 I2 (s'.trans s2) ⟨ag2.1.trans ag.1, fun j hj => (ag2.2 j fun z => hj (by simp [z])).trans (ag.2 j fun z => hj (by simp [z]))⟩⟩⟩
theorem qg_tup {k : Nat} {n : Nat} {ts : List Nat} {gs : List D → DEnv → Option DEnv} (ft : Fit X C) (hc : X.calm = true) (h : PGs X es (tDGs C ts gs)) (hn : (assignEach es X.env).length = n := by rfl) (hst : (assignEach es X.env).findIdx? (·.1) = none := by rfl) : PG X (.Tuple es k pos) (tDG C ts (gTupD n gs)) :=
  PG.weak (pg_tup hc h hn hst) fun v σ H Q ⟨F, env, d, e, I, r, hg, h⟩ => by
    unfold gTupD at hg
    cases d with
    | tup ds =>
      simp only at hg
      by_cases hl : ds.length = n
      · rw [if_pos hl] at hg
        obtain ⟨a, xs, rfl, h1, h2⟩ := r.tup
        exact ⟨a, xs, rfl, by rw [ft.k]; exact sameT I.fh h1, by rw [h2.len]; exact hl, F, env, ds, e, I, h2, hg, h⟩
      · rw [if_neg hl] at hg; cases hg
    | _ => cases hg
/-- target = e -/
def asgD (g : DG) (f : DE) : DS := fun env => bindS (f env) fun p => match g p.1.d p.2 with
  | some e => .ok (.nx e)
  | none => .no
theorem qs_asg {tg : Expr} {ts : List Nat} {g : DG} (he : PE X e (tD C f)) (hg : PG X tg (tDG C ts g)) (hs : swapsWithSole [tg] e pos.line X.env = pure false := by rfl) (hw : swappedStores [tg] e X.env = pure none := by rfl)
    (h1 : (assignEach [tg] X.env).map (·.2) = [assign tg X.env] := by rfl) : PS X (.Assign [tg] e pos) (tDS C (asgD g f)) :=
  PS.weak (ps_asg (qz he) hg hs hw h1) fun T σ H ⟨F, env, I, h⟩ => ⟨F, env, I, (FinS.bnd h).imp fun s e F1 H1 I1 s1 h1 v r => by
    cases eg : g s.d e with
    | none => simp only [eg] at h1; exact h1.elim
    | some e' => simp only [eg] at h1; exact ⟨F1, e, s.d, e', I1, r, eg, fun σ' F' H' I' s' _ => h1 σ' F' H' I' s'⟩⟩
/-- x op= e -/
def augD (g : D → D → Option Sl) (i : Nat) (f : DE) : DS := fun env => match env[i]? with
  | some (some (.frz d)) => bindS (f env) fun p => match g d p.1.d with
    | some s => .ok (.nx (p.2.set i (some s)))
    | none => .no
  | _ => .no
theorem qs_aug {i : Nat} {x : Str} {op : Operator} {r : TIp} {gg : D → D → Option Sl} {px : Pos} (h : ∀ {te : TE}, PE X e te → PS X (.AugAssign (.Name x px) op e pos) (tAug i te r)) (ok : OpOk C r gg) (he : PE X e (tD C f)) : PS X (.AugAssign (.Name x px) op e pos) (tDS C (augD gg i f)) :=
  PS.weak (h (qz he)) fun T σ H ⟨F, env, I, h⟩ => by
    unfold augD at h
    cases ei : env[i]? with
    | none => rw [ei] at h; exact h.elim
    | some o =>
      rw [ei] at h
      cases o with
      | none => exact h.elim
      | some s =>
        cases s with
        | frz d =>
          obtain ⟨v, hv, rv⟩ := I.sl i _ ei
          refine ⟨v, hv, F, env, I, (FinS.bnd h).imp fun s e F1 H1 I1 s1 h1 y ry => ?_⟩
          cases eg : gg d s.d with
          | none => simp only [eg] at h1; exact h1.elim
          | some z =>
            simp only [eg] at h1
            exact ok F1 H1 σ e v y _ _ z _ I1 (Rep.mono s1 rv) ry eg fun w F' H' I' s' r' => h1 _ F' H' (I'.assign r') s'
        | own d => exact h.elim
        | bor d => exact h.elim
        | exn c => exact h.elim
/-! ### what is walked -/
def ItOk (C : Cd) (J : It) (ds : List D) (F1 : Hp) : Prop := ∀ F H σ env (i : Nat), Same F1 F → In C F H σ env →
  (∀ d, ds[i]? = some d → J.go i H ∧ ∀ x H', J.yld i H x H' → ∃ F', Ext F H F' H' ∧ Rep C.K C.mg F' d x) ∧ (i = ds.length → J.stop i H)
abbrev DI := DEnv → R DEnv (List D × DEnv)
def tDI (C : Cd) (f : DI) : TI := fun σ H Q => ∃ F env, In C F H σ env ∧ Fin C F σ (f env) fun ds _ F' H' => ∀ J, ItOk C J ds F' → Q J H'
def forD (g : DG) (body : DS) : List D → DEnv → R DEnv Out
  | [], env => .ok (.nx env)
  | d :: ds, env => match g d env with
    | none => .no
    | some e => match body e with
      | .ok (.nx e') => forD g body ds e'
      | .ok (.ct e') => forD g body ds e'
      | .ok (.bk e') => .ok (.nx e')
      | .ok (.rt s e') => .ok (.rt s e')
      | .er c fs e' => .er c fs e'
      | .no => .no
def forS (fi : DI) (g : DG) (body : DS) : DS := fun env => bindS (fi env) fun p => forD g body p.1 p.2
theorem qs_for {tg iter : Expr} {ts : List Nat} {body : List Stmt} {fi : DI} {gg : DG} {gb : DS} (hp : PassesOwn (model X.prog X.w) X.A X.env X.xe) (hc : X.calm = true) (hi : PI X tg iter (tDI C fi)) (hg : PG X tg (tDG C ts gg)) (hb : PSs X body (tDS C gb))
    (hs : ∀ x, foldedSetIterable iter X.env x = pure x := by intro _; rfl) : PS X (.For tg iter body [] pos) (tDS C (forS fi gg gb)) :=
  PS.weak (ps_for hp hc hi hg hb hs) fun T σ H ⟨F, env, I, h⟩ => ⟨F, env, I, (FinS.bnd h).imp fun ds e F1 H1 I1 s1 h1 J ok => by
    refine ⟨fun i m σ H => m = ds.length - i ∧ i ≤ ds.length ∧ ∃ F env, In C F H σ env ∧ Same F1 F ∧ FinS C F (forD gg gb (ds.drop i) env) T, ⟨ds.length, by simp, Nat.zero_le _, F1, e, I1, .refl _, by simpa using h1⟩, ?_⟩
    rintro i m σ H ⟨rfl, hi, F, env, I, sF, h⟩
    rcases Nat.lt_or_ge i ds.length with hlt | hge
    · have ed : ds[i]? = some ds[i] := List.getElem?_eq_getElem hlt
      obtain ⟨go, yl⟩ := (ok F H σ env i sF I).1 _ ed
      refine .inr ⟨go, fun σ H => ∃ F env, In C F H σ env ∧ Same F1 F ∧ FinS C F (forD gg gb (ds.drop (i + 1)) env) T, fun σ' H' q => ⟨ds.length - (i + 1), by omega, rfl, hlt, q⟩, fun x H' y => ?_⟩
      obtain ⟨F', xt, r'⟩ := yl x H' y
      have I' := I.call xt
      have s' := xt.ff
      rw [List.drop_eq_getElem_cons hlt] at h
      unfold forD at h
      cases eg : gg ds[i] env with
      | none => simp only [eg] at h; exact h.elim
      | some e' =>
        simp only [eg] at h
        refine ⟨F', env, ds[i], e', I', r', eg, fun σ2 F2 H2 I2 s2 _ => ⟨F2, e', I2, ?_⟩⟩
        have sA := s'.trans s2
        cases eb : gb e' with
        | no => simp only [eb] at h; exact h
        | er c fs x => simp only [eb] at h; exact FinS.le sA h
        | ok o =>
          cases o with
          | nx z => simp only [eb] at h; exact fun σ3 F3 H3 I3 s3 => ⟨F3, z, I3, (sF.trans sA).trans s3, FinS.le (sA.trans s3) h⟩
          | ct z => simp only [eb] at h; exact fun σ3 F3 H3 I3 s3 => ⟨F3, z, I3, (sF.trans sA).trans s3, FinS.le (sA.trans s3) h⟩
          | bk z => simp only [eb] at h; exact fun σ3 F3 H3 I3 s3 => h σ3 F3 H3 I3 (sA.trans s3)
          | rt w z => simp only [eb] at h; exact fun v σ3 F3 H3 I3 s3 r3 => h v σ3 F3 H3 I3 (sA.trans s3) r3
    · have e : i = ds.length := by omega
      subst e
      rw [List.drop_length] at h
      exact .inl ⟨(ok F H σ env _ sF I).2 rfl, h σ F H I (.refl _)⟩⟩
end
end Dd

namespace Dd
open PySem PySem.Spec PyProof.Rows L2
/-! ### what a def promises -/
abbrev DF := List D → R (List D) (Sl × List D)
structure ExtB (p : Addr) (F H F' H' : Hp) : Prop where
  ff : Same F F'
  fh : Same F' H'
  hh : ∀ a o, H a = some o → a ≠ p → H' a = some o
  nf : ∀ a o, F' a = some o → F a = some o ∨ H a = none
def ResO (K : PySem.W.Frag) (mg : Str → Option Value) (F' H' H : Hp) : Sl → V → Prop
  | .frz d, v => Rep K mg F' d v
  | .own d, v => ∃ p, v = .ref p ∧ F' p = none ∧ H p = none ∧ Own K mg F' H' d p
  | .bor _, _ => False
  | .exn _, _ => False
def ErO (K : PySem.W.Frag) (mg : Str → Option Value) (F : Hp) (fs : List (Str × D)) (x : Option Addr) : Prop := match fs with
  | [] => x = none
  | f :: r => ∃ a xs, x = some a ∧ F a = some (.xd (((f :: r).map (·.1)).zip xs)) ∧ RepL K mg F ((f :: r).map (·.2)) xs
def spP (K : PySem.W.Frag) (mg : Str → Option Value) (n : Nat) (g : DF) : Sp := fun vs H Q E => vs.length = n ∧ ∃ F ds, Same F H ∧ RepL K mg F ds vs ∧
  match g ds with
  | .ok p => ∀ v F' H', Ext F H F' H' → ResO K mg F' H' H p.1 v → Q v H'
  | .er c fs _ => ∀ x F' H', Ext F H F' H' → ErO K mg F' fs x → E (.ref (clsA mg c)) x H'
  | .no => False
def sp0 (K : PySem.W.Frag) (mg : Str → Option Value) (n : Nat) (g : DF) : Sp := fun vs H Q E => vs.length = n ∧ ∃ F ds, Same F H ∧ RepL K mg F ds vs ∧
  match g ds with
  | .ok p => ∀ v F' H', Ext F H F' H' → ResO K mg F' H' H p.1 v → Q v H'
  | _ => False
def spB (K : PySem.W.Frag) (mg : Str → Option Value) (n : Nat) (g : DF) : Sp := fun vs H Q E => vs.length = n ∧ ∃ F d0 ds p vr, vs = .ref p :: vr ∧ Same F H ∧ F p = none ∧ Own K mg F H d0 p ∧ RepL K mg F ds vr ∧
  match g (d0 :: ds) with
  | .ok (s, [d]) => ∀ v F' H', ExtB p F H F' H' → F' p = none → Own K mg F' H' d p → ResO K mg F' H' H s v → Q v H'
  | _ => False
def outF (r : R DEnv Out) : R (List D) (Sl × List D) := match r with
  | .ok (.rt s _) => .ok (s, [])
  | .ok (.nx _) => .ok (.frz .non, [])
  | .ok _ => .no
  | .er c fs _ => .er c fs []
  | .no => .no
def outB (r : R DEnv Out) : R (List D) (Sl × List D) := match r with
  | .ok (.rt s e) => match e[0]? with
    | some (some (Sl.bor d)) => .ok (s, [d])
    | _ => .no
  | .ok (.nx e) => match e[0]? with
    | some (some (Sl.bor d)) => .ok (.frz .non, [d])
    | _ => .no
  | _ => .no
def env0 (n : Nat) (ds : List D) : DEnv := ds.map (fun d => some (.frz d)) ++ List.replicate (n - ds.length) none
def envB (n : Nat) (ds : List D) : DEnv := match ds with
  | [] => []
  | d :: r => some (.bor d) :: (r.map (fun d => some (.frz d)) ++ List.replicate (n - ds.length) none)
def bodyF (n : Nat) (g : DS) : DF := fun ds => outF (g (env0 n ds))
def bodyB (n : Nat) (g : DS) : DF := fun ds => outB (g (envB n ds))
structure Has (K : PySem.W.Frag) (mg : Str → Option Value) (x : Str) (st : Stmt) (ps : List Str) : Prop where
  ex : ∃ f fd, Fun K x x st f fd ∧ mg x = some (.ref f) ∧ Binds K fd ps []
structure Ok (P : Program) (w : World) (K : PySem.W.Frag) (mg : Str → Option Value) (base : Heap) (C : CXT) (x : Str) (st : Stmt) (k : Nat) (ps : List Str) (sp : Sp) : Prop where
  ex : ∃ f fd, Fun K x x st f fd ∧ FnOk P w K mg base C k f fd ps sp ∧ mg x = some (.ref f) ∧ Binds K fd ps []
section
variable {K : PySem.W.Frag} {mg : Str → Option Value} {F H : Hp} {W : WX} {rz : Bool}
theorem start_get {N : List Str} {vs : List V} {i : Nat} {v : V} (h : vs[i]? = some v) : (L2.start N vs)[i]? = some (some v) := by
  unfold L2.start
  have hl : i < vs.length := (List.getElem?_eq_some_iff.mp h).1
  rw [List.getElem?_append_left (by rw [List.length_map]; exact hl), List.getElem?_map, h]
  rfl
theorem env0_get {n : Nat} {ds : List D} {i : Nat} {s : Sl} (h : (env0 n ds)[i]? = some (some s)) : ∃ d, ds[i]? = some d ∧ s = .frz d := by
  unfold env0 at h
  rcases Nat.lt_or_ge i ds.length with hl | hl
  · rw [List.getElem?_append_left (by rw [List.length_map]; exact hl), List.getElem?_map, List.getElem?_eq_getElem hl] at h
    exact ⟨_, List.getElem?_eq_getElem hl, (Option.some.inj (Option.some.inj h)).symm⟩
  · rw [List.getElem?_append_right (by rw [List.length_map]; exact hl), List.getElem?_replicate] at h
    split at h <;> cases h
theorem In.start {N : List Str} {vs : List V} {ds : List D} (s : Same F H) (r : RepL K mg F ds vs) : In ⟨K, mg, F, H, fun _ => False, W, 0, "", rz⟩ F H (L2.start N vs) (env0 N.length ds) := by
  refine ⟨.refl _, s, fun a o h _ => h, fun a o h => .inl h, ?_, fun i z hz => ?_, fun i j z t p hi hj mz => ?_, fun p hp => hp.elim⟩
  · unfold L2.start env0
    simp [r.len]
  · obtain ⟨d, hd, rfl⟩ := env0_get hz
    obtain ⟨x, hx, rx⟩ := r.get hd
    exact ⟨x, start_get hx, rx⟩
  · obtain ⟨d, _, rfl⟩ := env0_get hi
    cases mz
theorem In.ext {N : List Str} {σ : L2.St} {F' H' : Hp} {e : DEnv} (I : In ⟨K, mg, F, H, fun _ => False, W, 0, "", rz⟩ F' H' σ e) : Ext F H F' H' := ⟨I.f0, I.fh, fun a o h => I.fr a o h (fun z => z), I.nf⟩
theorem Res.out {σ : L2.St} {F' H' F0 H0 : Hp} {B : Addr → Prop} {e : DEnv} {s : Sl} {v : V} (r : Res ⟨K, mg, F0, H0, B, W, 0, "", rz⟩ F' H' e σ s v) : ResO K mg F' H' H0 s v := by
  cases s with
  | frz d => exact r
  | exn c => exact r.elim
  | own d =>
    obtain ⟨p, rfl, fr⟩ := r
    exact ⟨p, rfl, fr.f, fr.h0, fr.o⟩
  | bor d => exact r.elim
theorem In.startB {N : List Str} {vs : List V} {ds : List D} {d0 : D} {p : Addr} (hN : 0 < N.length) (s : Same F H) (nF : F p = .none) (o : Own K mg F H d0 p) (r : RepL K mg F ds vs) : In ⟨K, mg, F, H, fun q => q = p, W, 0, "", rz⟩ F H (L2.start N (.ref p :: vs)) (envB N.length (d0 :: ds)) := by
  have sl : ∀ (i : Nat) (z : Sl), (envB N.length (d0 :: ds))[i]? = some (some z) → (i = 0 ∧ z = .bor d0) ∨ ∃ j d, i = j + 1 ∧ ds[j]? = some d ∧ z = .frz d := by
    intro i z hz
    cases i with
    | zero => simp only [envB, List.getElem?_cons_zero] at hz; cases hz; exact .inl ⟨rfl, rfl⟩
    | succ j =>
      simp only [envB, List.getElem?_cons_succ] at hz
      rcases Nat.lt_or_ge j ds.length with hl | hl
      · rw [List.getElem?_append_left (by rw [List.length_map]; exact hl), List.getElem?_map, List.getElem?_eq_getElem hl] at hz
        exact .inr ⟨j, _, rfl, List.getElem?_eq_getElem hl, (Option.some.inj (Option.some.inj hz)).symm⟩
      · rw [List.getElem?_append_right (by rw [List.length_map]; exact hl), List.getElem?_replicate] at hz
        split at hz <;> cases hz
  refine ⟨.refl _, s, fun a o h _ => h, fun a o h => .inl h, ?_, fun i z hz => ?_, fun i j z t q hi hj mz mt ai aj => ?_, fun q hq => ?_⟩
  · unfold L2.start envB
    simp [r.len]
  · rcases sl i z hz with ⟨rfl, rfl⟩ | ⟨j, d, rfl, hd, rfl⟩
    · exact ⟨.ref p, start_get rfl, p, rfl, nF, rfl, o⟩
    · obtain ⟨x, hx, rx⟩ := r.get hd
      exact ⟨x, start_get (by simpa using hx), rx⟩
  · rcases sl i z hi with ⟨rfl, rfl⟩ | ⟨j', d, rfl, hd, rfl⟩
    · rcases sl j t hj with ⟨rfl, rfl⟩ | ⟨j', d, rfl, hd, rfl⟩
      · rfl
      · cases mt
    · cases mz
  · obtain rfl : q = p := hq
    obtain ⟨x, hx⟩ := o.some
    rw [hx]
    exact fun z => nomatch z
end
section
variable {P : Program} {w : World} {K : PySem.W.Frag} {mg : Str → Option Value} {base : Heap} {x : Str} {st : Stmt} {ps N : List Str} {k : Nat} {g : DS}
abbrev W0 : WX := fun _ _ _ _ => False
abbrev WD (E : XK) : WX := fun cls d _ H => E cls d H
/-- a def that raises nothing, by its body -/
theorem Has.okD (D : Has K mg x st ps) (S : FnScope N ps (defScope st))
    (hb : ∀ (f : Addr) (cdv : Value) (A : Around) (outer : List Env) (s : Shared) (H : Hp) (E : XK) (F : Hp), Room k (A.deeper (envOfC x (defScope st) s.heap.objs.size f cdv)) → Fit (cxOf CX0 P w K mg base N x (defScope st) f cdv A outer s H E).nox ⟨K, mg, F, H, fun _ => False, W0, 0, "", false⟩ →
      PSs (cxOf CX0 P w K mg base N x (defScope st) f cdv A outer s H E).nox (defBody st) (tDS ⟨K, mg, F, H, fun _ => False, W0, 0, "", false⟩ g)) : Ok P w K mg base CX0 x st (k + 1) ps (sp0 K mg ps.length (bodyF N.length g)) := by
  obtain ⟨f, fd, F, gl, b⟩ := D
  refine ⟨f, fd, F, F.ok S (fun vs H Q E h => h.1) (fun cdv A outer s H vs Q E hr h => ?_), gl, b⟩
  obtain ⟨hl, Fz, ds, sm, r, h⟩ := h
  refine ⟨_, hb f cdv A outer s H E Fz hr ⟨rfl, rfl⟩, Fz, _, In.start sm r, ?_⟩
  unfold bodyF at h
  cases e : g (env0 N.length ds) with
  | no => rw [e] at h; exact h
  | er c fs z => rw [e] at h; exact h.elim
  | ok o =>
    rw [e] at h
    cases o with
    | nx z => exact fun σ F' H' I s => h _ F' H' (I.ext (N := N)) (show Rep K mg F' .non .non from rNon)
    | rt s z => exact fun v σ F' H' I _ r => h _ F' H' (I.ext (N := N)) r.out
    | bk z => exact h.elim
    | ct z => exact h.elim
/-- a def that may raise -/
theorem Has.okDX (D : Has K mg x st ps) (S : FnScope N ps (defScope st))
    (hb : ∀ (f : Addr) (cdv : Value) (A : Around) (outer : List Env) (s : Shared) (H : Hp) (E : XK) (F : Hp), Room k (A.deeper (envOfC x (defScope st) s.heap.objs.size f cdv)) → Fit (cxOf (L2.CX P w) P w K mg base N x (defScope st) f cdv A outer s H E) ⟨K, mg, F, H, fun _ => False, WD E, 0, "", true⟩ →
      PSs (cxOf (L2.CX P w) P w K mg base N x (defScope st) f cdv A outer s H E) (defBody st) (tDS ⟨K, mg, F, H, fun _ => False, WD E, 0, "", true⟩ g)) : Ok P w K mg base (L2.CX P w) x st (k + 1) ps (spP K mg ps.length (bodyF N.length g)) := by
  obtain ⟨f, fd, F, gl, b⟩ := D
  refine ⟨f, fd, F, F.okX S (fun vs H Q E h => h.1) (fun cdv A outer s H vs Q E hr h => ?_), gl, b⟩
  obtain ⟨hl, Fz, ds, sm, r, h⟩ := h
  refine ⟨_, hb f cdv A outer s H E Fz hr ⟨rfl, rfl⟩, Fz, _, In.start sm r, ?_⟩
  unfold bodyF at h
  cases e : g (env0 N.length ds) with
  | no => rw [e] at h; exact h
  | er c fs z => rw [e] at h; exact ⟨rfl, fun x σ F' H' I s k => h x F' H' (I.ext (N := N)) k⟩
  | ok o =>
    rw [e] at h
    cases o with
    | nx z => exact fun σ F' H' I s => h _ F' H' (I.ext (N := N)) (show Rep K mg F' .non .non from rNon)
    | rt s z => exact fun v σ F' H' I _ r => h _ F' H' (I.ext (N := N)) r.out
    | bk z => exact h.elim
    | ct z => exact h.elim
/-- a def that changes its first argument -/
theorem In.endB {F H F' H' : Hp} {p : Addr} {vs : List V} {W : WX} {rz : Bool} {e : DEnv} {σ : L2.St} {d : D} (I : In ⟨K, mg, F, H, fun q => q = p, W, 0, "", rz⟩ F' H' σ e) (hd : e[0]? = some (some (.bor d))) : ExtB p F H F' H' ∧ F' p = .none ∧ Own K mg F' H' d p := by
  obtain ⟨v, hv, q, rfl, h1, h2, h3⟩ := I.sl 0 _ hd
  obtain rfl : q = p := h2
  exact ⟨⟨I.f0, I.fh, fun a o h n => I.fr a o h n, I.nf⟩, h1, h3⟩
theorem Has.okB (D : Has K mg x st ps) (S : FnScope N ps (defScope st)) (hN : 0 < N.length)
    (hb : ∀ (f : Addr) (cdv : Value) (A : Around) (outer : List Env) (s : Shared) (H : Hp) (E : XK) (F : Hp) (p : Addr), Room k (A.deeper (envOfC x (defScope st) s.heap.objs.size f cdv)) → Fit (cxOf CX0 P w K mg base N x (defScope st) f cdv A outer s H E).nox ⟨K, mg, F, H, fun q => q = p, W0, 0, "", false⟩ →
      PSs (cxOf CX0 P w K mg base N x (defScope st) f cdv A outer s H E).nox (defBody st) (tDS ⟨K, mg, F, H, fun q => q = p, W0, 0, "", false⟩ g)) : Ok P w K mg base CX0 x st (k + 1) ps (spB K mg ps.length (bodyB N.length g)) := by
  obtain ⟨f, fd, F, gl, b⟩ := D
  refine ⟨f, fd, F, F.ok S (fun vs H Q E h => h.1) (fun cdv A outer s H vs Q E hr h => ?_), gl, b⟩
  obtain ⟨hl, Fz, d0, ds, p, vr, rfl, sm, nF, ow, r, h⟩ := h
  refine ⟨_, hb f cdv A outer s H E Fz p hr ⟨rfl, rfl⟩, Fz, _, In.startB hN sm nF ow r, ?_⟩
  unfold bodyB at h
  cases e : g (envB N.length (d0 :: ds)) with
  | no => rw [e] at h; exact h
  | er c fs z => rw [e] at h; exact h.elim
  | ok o =>
    rw [e] at h
    cases o with
    | nx z =>
      unfold outB at h
      cases e0 : z[0]? with
      | none => simp only [e0] at h
      | some q =>
        cases q with
        | none => simp only [e0] at h
        | some q =>
          cases q with
          | bor d =>
            simp only [e0] at h
            intro σ F' H' I s
            obtain ⟨x1, x2, x3⟩ := I.endB (vs := vr) e0
            exact h _ F' H' x1 x2 x3 (show Rep K mg F' .non .non from rNon)
          | frz d => simp only [e0] at h
          | exn c => simp only [e0] at h
          | own d => simp only [e0] at h
    | rt t z =>
      unfold outB at h
      cases e0 : z[0]? with
      | none => simp only [e0] at h
      | some q =>
        cases q with
        | none => simp only [e0] at h
        | some q =>
          cases q with
          | bor d =>
            simp only [e0] at h
            intro v σ F' H' I s r
            obtain ⟨x1, x2, x3⟩ := I.endB (vs := vr) e0
            exact h _ F' H' x1 x2 x3 r.out
          | frz d => simp only [e0] at h
          | exn c => simp only [e0] at h
          | own d => simp only [e0] at h
    | bk z => exact h.elim
    | ct z => exact h.elim
end
/-! ### calls -/
section
variable {C : Cd} {F H F' H' : Hp} {σ : L2.St} {env : DEnv}
theorem In.slotNe (I : In C F H σ env) {p : Addr} (n : H p = Option.none) : ∀ (i : Nat) (s : Sl), env[i]? = some (some s) → s.mut = true → σ[i]? ≠ some (some (.ref p)) := fun i s hi ms hz => by
  obtain ⟨v, hv, hs⟩ := I.sl i s hi
  rw [hv] at hz
  cases hz
  cases s with
  | frz d => cases ms
  | exn c => cases ms
  | own d =>
    obtain ⟨q, e, h1, h2, h3⟩ := hs
    cases e
    obtain ⟨o, ho⟩ := h3.some
    rw [ho] at n
    cases n
  | bor d =>
    obtain ⟨q, e, h1, h2, h3⟩ := hs
    cases e
    obtain ⟨o, ho⟩ := h3.some
    rw [ho] at n
    cases n
theorem In.resO (I : In C F H σ env) {s : Sl} {v : V} (r : ResO C.K C.mg F' H' H s v) : Res C F' H' env σ s v := by
  cases s with
  | frz d => exact r
  | exn c => exact r.elim
  | own d =>
    obtain ⟨p, rfl, h1, h2, h3⟩ := r
    exact ⟨p, rfl, h1, I.none0 h2, h3, I.slotNe h2⟩
  | bor d => exact r.elim
end
/-- a call of a def that may raise; one that must not -/
def callD (g : DF) (fs : List DE) : DE := fun env => (argsD fs env).bind fun p => match g p.1 with
  | .ok q => .ok (q.1, p.2)
  | .er c x _ => .er c x p.2
  | .no => .no
/-- a call that changes what slot i has -/
def callBD (g : DF) (i : Nat) (fs : List DE) : DE := fun env => match env[i]? with
  | some (some _) => (argsD fs env).bind fun p => match p.2[i]? with
    | some (some s) => (match s.mut, g (s.d :: p.1) with
      | true, .ok (r, [d]) => .ok (r, p.2.set i (some (s.put d)))
      | _, _ => .no)
    | _ => .no
  | _ => .no
section
variable {X : Cx} {C : Cd} {x : Str} {st : Stmt} {ps ks : List Str} {k : Nat} {e : Expr} {es : List Expr} {kws : List Keyword} {p pos : Pos} {g : DF} {fs : List DE}
theorem t_call0 {σ : L2.St} {H : Hp} {Q : VK} {n : Nat} {E : XK} (hn : fs.length = n) (hz : C.rz = false) : tD C (callD g fs) σ H Q → tDA C fs σ H fun vs H1 => sp0 C.K C.mg n g vs H1 Q E := fun ⟨F, env, I, h⟩ => ⟨F, env, I, by
  unfold callD at h
  cases ea : argsD fs env with
  | no => rw [ea] at h; exact h
  | er c fs z => rw [ea] at h; exact h
  | ok p =>
    rw [ea] at h
    intro F1 H1 I1 s1 vs rv
    refine ⟨by rw [rv.len, argsD_len ea]; exact hn, F1, p.1, I1.fh, rv, ?_⟩
    simp only [R.bind_ok] at h
    cases eg : g p.1 with
    | no => simp only [eg] at h; exact h.elim
    | er c fs z => simp only [eg] at h; have h1 := h.1; rw [hz] at h1; cases h1
    | ok q =>
      simp only [eg] at h
      exact fun v F' H' x r => h F' H' (I1.call x) (s1.trans x.ff) v (I1.resO r)⟩
theorem t_call {σ : L2.St} {H : Hp} {Q : VK} {n : Nat} (hn : fs.length = n) : tD C (callD g fs) σ H Q → tDA C fs σ H fun vs H1 => spP C.K C.mg n g vs H1 Q (WE C.W σ) := fun ⟨F, env, I, h⟩ => ⟨F, env, I, by
  unfold callD at h
  cases ea : argsD fs env with
  | no => rw [ea] at h; exact h
  | er c fs z => rw [ea] at h; exact h
  | ok p =>
    rw [ea] at h
    intro F1 H1 I1 s1 vs rv
    refine ⟨by rw [rv.len, argsD_len ea]; exact hn, F1, p.1, I1.fh, rv, ?_⟩
    simp only [R.bind_ok] at h
    cases eg : g p.1 with
    | no => simp only [eg] at h; exact h.elim
    | er c fs z => simp only [eg] at h; exact fun x F' H' xt er => h.2 x F' H' (I1.call xt) (s1.trans xt.ff) er
    | ok q =>
      simp only [eg] at h
      exact fun v F' H' x r => h F' H' (I1.call x) (s1.trans x.ff) v (I1.resO r)⟩
theorem qe_call (ft : Fit X C) (O : Ok X.prog X.w X.K X.mg X.base CX0 x st k ps (sp0 X.K X.mg ps.length g)) (hz : C.rz = false) (hr : Room k X.A) (hg : Gl X x) (ha : PA X (e :: es) (tDA C fs)) (hn : fs.length = ps.length := by rfl) (hdb : (x == ("__debug__" : Str)) = false := by decide) (he : starEach (e :: es) X.env = (false, eval e X.env) :: starEach es X.env := by rfl) (hpl : (backTo pos (starEach es X.env)).any (·.1) = false := by rfl) :
    PE X (.Call (.Name x p) (e :: es) [] pos) (tD C (callD g fs)) := by
  obtain ⟨f, fd, F, G, m, b⟩ := O
  refine PE.weak (pe_call G hr hg m F.kp b .nil pass0 ha hdb he hpl) fun σ H Q h => ?_
  have q := t_call0 (E := E0) hn hz h
  rw [← ft.k, ← ft.m] at q
  obtain ⟨F1, env, I, q⟩ := q
  exact ⟨F1, env, I, q.imp fun ds e F' H' I' s' k vs rv => by show sp0 X.K X.mg ps.length g (vs ++ []) H' Q E0; rw [List.append_nil]; exact k vs rv⟩
theorem qe_callX (ft : Fit X C) (O : Ok X.prog X.w X.K X.mg X.base (L2.CX X.prog X.w) x st k ps (spP X.K X.mg ps.length g)) (hr : Room k X.A) (hg : Gl X x) (tk : Takes X C.W) (ha : PA X (e :: es) (tDA C fs)) (hn : fs.length = ps.length := by rfl) (hdb : (x == ("__debug__" : Str)) = false := by decide) (he : starEach (e :: es) X.env = (false, eval e X.env) :: starEach es X.env := by rfl) (hpl : (backTo pos (starEach es X.env)).any (·.1) = false := by rfl) :
    PE X (.Call (.Name x p) (e :: es) [] pos) (tD C (callD g fs)) := by
  obtain ⟨f, fd, F, G, m, b⟩ := O
  refine PE.weak (pe_callS G hr hg m F.kp b (fun σ => passAt tk σ) ha hdb he hpl) fun σ H Q h => ?_
  have q := t_call hn h
  rw [← ft.k, ← ft.m] at q
  exact q
theorem In.callB {F H F' H' : Hp} {σ : L2.St} {env : DEnv} (I : In C F H σ env) {i : Nat} {s : Sl} {p : Addr} {d : D} (hi : env[i]? = some (some s)) (ms : s.mut = true) (hv : σ[i]? = some (some (.ref p))) (x : ExtB p F H F' H') (nF : F' p = Option.none) (o : Own C.K C.mg F' H' d p) : In C F' H' σ (env.set i (some (s.put d))) := by
  have hp : (C.H0 p = Option.none ∨ C.B p) ∧ ∃ o', H p = some o' := by
    obtain ⟨v, e, hs⟩ := I.sl i s hi
    rw [hv] at e
    cases e
    cases s with
    | frz d => cases ms
    | exn c => cases ms
    | own d =>
      obtain ⟨q, e, h1, h2, h3⟩ := hs
      cases e
      exact ⟨.inl h2, h3.some⟩
    | bor d =>
      obtain ⟨q, e, h1, h2, h3⟩ := hs
      cases e
      exact ⟨.inr h2, h3.some⟩
  obtain ⟨n0, o', hp⟩ := hp
  have free : ∀ q o, F q = Option.none → H q = some o → F' q = Option.none := fun q o h1 h2 => by
    cases e : F' q with
    | none => rfl
    | some z =>
      rcases x.nf q z e with h | h
      · rw [h1] at h; cases h
      · rw [h2] at h; cases h
  refine ⟨I.f0.trans x.ff, x.fh, fun a z h hb => ?_, fun a z h => ?_, by rw [List.length_set]; exact I.len, fun j t hj => ?_, fun j k t u q hj hk ms' mt aj ak => ?_, fun q hq => ?_⟩
  · have ne : a ≠ p := fun z => by
      rcases n0 with n0 | n0
      · rw [z, n0] at h; cases h
      · exact hb (z ▸ n0)
    exact x.hh _ _ (I.fr a z h hb) ne
  · rcases x.nf a z h with h | h
    · exact I.nf a z h
    · exact .inr (I.none0 h)
  · by_cases e : i = j
    · subst e
      obtain ⟨hl, es⟩ := set_self hj
      cases es
      refine ⟨.ref p, hv, ?_⟩
      obtain ⟨v, e, hs⟩ := I.sl i s hi
      rw [hv] at e
      cases e
      cases s with
      | frz d => cases ms
      | exn c => cases ms
      | own d =>
        obtain ⟨q, e, h1, h2, h3⟩ := hs
        cases e
        exact ⟨p, rfl, nF, h2, o⟩
      | bor d =>
        obtain ⟨q, e, h1, h2, h3⟩ := hs
        cases e
        exact ⟨p, rfl, nF, h2, o⟩
    · rw [List.getElem?_set_ne e] at hj
      obtain ⟨v, ev, hs⟩ := I.sl j t hj
      refine ⟨v, ev, ?_⟩
      cases t with
      | frz d => exact Rep.mono x.ff hs
      | exn c => exact hs
      | own d =>
        obtain ⟨q, e1, h1, h2, h3⟩ := hs
        obtain ⟨w, hw⟩ := h3.some
        have nq : q ≠ p := fun z => e (I.ds i j s _ p hi hj ms rfl hv (by rw [ev, e1, z]))
        exact ⟨q, e1, free q w h1 hw, h2, h3.keep x.ff fun o h => x.hh _ _ h nq⟩
      | bor d =>
        obtain ⟨q, e1, h1, h2, h3⟩ := hs
        obtain ⟨w, hw⟩ := h3.some
        have nq : q ≠ p := fun z => e (I.ds i j s _ p hi hj ms rfl hv (by rw [ev, e1, z]))
        exact ⟨q, e1, free q w h1 hw, h2, h3.keep x.ff fun o h => x.hh _ _ h nq⟩
  · have mo : ∀ {j : Nat} {t : Sl}, (env.set i (some (s.put d)))[j]? = some (some t) → t.mut = true → ∃ t', env[j]? = some (some t') ∧ t'.mut = true := by
      intro j t hj mt
      by_cases e : i = j
      · subst e
        exact ⟨s, hi, ms⟩
      · rw [List.getElem?_set_ne e] at hj
        exact ⟨t, hj, mt⟩
    obtain ⟨t', h1, h2⟩ := mo hj ms'
    obtain ⟨u', h3, h4⟩ := mo hk mt
    exact I.ds j k t' u' q h1 h3 h2 h4 aj ak
  · obtain ⟨w, hw⟩ := o.some
    by_cases e : q = p
    · rw [e, hw]; exact fun z => nomatch z
    · cases eh : H q with
      | none => exact absurd eh (I.bs q hq)
      | some z => rw [x.hh _ _ eh e]; exact fun z => nomatch z
theorem In.slotNe2 {F H : Hp} {σ : L2.St} {env : DEnv} (I : In C F H σ env) {p : Addr} (n : H p = Option.none) {i : Nat} {s : Sl} {d : D} (hi : env[i]? = some (some s)) : ∀ (j : Nat) (t : Sl), (env.set i (some (s.put d)))[j]? = some (some t) → t.mut = true → σ[j]? ≠ some (some (.ref p)) := fun j t hj mt => by
  by_cases e : i = j
  · subst e
    obtain ⟨hl, es⟩ := set_self hj
    cases es
    refine I.slotNe n i s hi ?_
    cases s <;> first | exact mt | rfl
  · rw [List.getElem?_set_ne e] at hj
    exact I.slotNe n j t hj mt
theorem Res.putB {F F' H H' : Hp} {σ : L2.St} {env : DEnv} (I : In C F H σ env) {i : Nat} {s r : Sl} {d : D} {v : V} (hi : env[i]? = some (some s)) (h : ResO C.K C.mg F' H' H r v) : Res C F' H' (env.set i (some (s.put d))) σ r v := by
  cases r with
  | frz d => exact h
  | exn c => exact h.elim
  | own d =>
    obtain ⟨p, rfl, h1, h2, h3⟩ := h
    exact ⟨p, rfl, h1, I.none0 h2, h3, I.slotNe2 h2 hi⟩
  | bor d => exact h.elim
theorem t_callB {σ : L2.St} {H : Hp} {Q : VK} {n i : Nat} {E : XK} (hn : fs.length + 1 = n) : tD C (callBD g i fs) σ H Q → ∃ v, σ[i]? = some (some v) ∧ tDA C fs σ H fun vs H1 => spB C.K C.mg n g (v :: vs) H1 Q E := fun ⟨F, env, I, h⟩ => by
  unfold callBD at h
  cases ei : env[i]? with
  | none => rw [ei] at h; exact h.elim
  | some z =>
    cases z with
    | none => rw [ei] at h; exact h.elim
    | some s0 =>
      rw [ei] at h
      obtain ⟨v, hv, _⟩ := I.sl i s0 ei
      refine ⟨v, hv, F, env, I, ?_⟩
      cases ea : argsD fs env with
      | no => simp only [ea] at h; exact h.elim
      | er c fs z => simp only [ea] at h; exact h
      | ok p =>
        simp only [ea, R.bind_ok] at h
        intro F1 H1 I1 s1 vs rv
        cases e1 : p.2[i]? with
        | none => simp only [e1] at h; exact h.elim
        | some z =>
          cases z with
          | none => simp only [e1] at h; exact h.elim
          | some s =>
            simp only [e1] at h
            obtain ⟨v', hv', sv⟩ := I1.sl i s e1
            rw [hv] at hv'
            cases hv'
            cases s with
            | frz d => simp only [Sl.mut] at h; exact h.elim
            | exn c => simp only [Sl.mut] at h; exact h.elim
            | own d =>
              obtain ⟨q, rfl, h1, h2, h3⟩ := sv
              refine ⟨by rw [List.length_cons, rv.len, argsD_len ea]; exact hn, F1, d, p.1, q, vs, rfl, I1.fh, h1, h3, rv, ?_⟩
              simp only [Sl.mut, Sl.d] at h
              cases eg : g (d :: p.1) with
              | no => simp only [eg] at h; exact h.elim
              | er c fs z => simp only [eg] at h; exact h.elim
              | ok r =>
                obtain ⟨r, ds⟩ := r
                cases ds with
                | nil => simp only [eg] at h; exact h.elim
                | cons d' t =>
                  cases t with
                  | nil =>
                    simp only [eg] at h
                    exact fun w F' H' x nF o rr => h F' H' (I1.callB e1 rfl hv x nF o) (s1.trans x.ff) w (Res.putB I1 e1 rr)
                  | cons a b => simp only [eg] at h; exact h.elim
            | bor d =>
              obtain ⟨q, rfl, h1, h2, h3⟩ := sv
              refine ⟨by rw [List.length_cons, rv.len, argsD_len ea]; exact hn, F1, d, p.1, q, vs, rfl, I1.fh, h1, h3, rv, ?_⟩
              simp only [Sl.mut, Sl.d] at h
              cases eg : g (d :: p.1) with
              | no => simp only [eg] at h; exact h.elim
              | er c fs z => simp only [eg] at h; exact h.elim
              | ok r =>
                obtain ⟨r, ds⟩ := r
                cases ds with
                | nil => simp only [eg] at h; exact h.elim
                | cons d' t =>
                  cases t with
                  | nil =>
                    simp only [eg] at h
                    exact fun w F' H' x nF o rr => h F' H' (I1.callB e1 rfl hv x nF o) (s1.trans x.ff) w (Res.putB I1 e1 rr)
                  | cons a b => simp only [eg] at h; exact h.elim
theorem qe_callB {i : Nat} (ft : Fit X C) (O : Ok X.prog X.w X.K X.mg X.base CX0 x st k ps (spB X.K X.mg ps.length g)) (hr : Room k X.A) (hg : Gl X x) (hv : PE X e (tVar i)) (ha : PA X es (tDA C fs)) (hn : fs.length + 1 = ps.length := by rfl) (hx : starEach (e :: es) X.env = (false, eval e X.env) :: starEach es X.env := by rfl) (hdb : (x == ("__debug__" : Str)) = false := by decide) (he : starEach (e :: es) X.env = (false, eval e X.env) :: starEach es X.env := by rfl) (hpl : (backTo pos (starEach es X.env)).any (·.1) = false := by rfl) :
    PE X (.Call (.Name x p) (e :: es) [] pos) (tD C (callBD g i fs)) := by
  obtain ⟨f, fd, F, G, m, b⟩ := O
  refine PE.weak (pe_call G hr hg m F.kp b .nil pass0 (pa_cons hv ha hx) hdb he hpl) fun σ H Q h => ?_
  have q := t_callB (E := E0) hn h
  rw [← ft.k, ← ft.m] at q
  obtain ⟨v, hv, F1, env, I, q⟩ := q
  exact ⟨v, hv, F1, env, I, q.imp fun ds e F' H' I' s' k vs rv => by show spB X.K X.mg ps.length g ((v :: vs) ++ []) H' Q E0; rw [List.append_nil]; exact k vs rv⟩
end
end Dd

namespace Dd
open PySem PySem.Spec PyProof.Rows L2
/-! ### operations -/
def lim : Nat := 16000000
theorem lim_le {n : Nat} (h : n ≤ lim) : n ≤ sizeLine := Nat.le_trans h (by decide)
theorem lim_lt {n : Nat} (h : n ≤ lim) : n < sizeLine := Nat.lt_of_le_of_lt h (by decide)
def gAdd : D → D → Option Sl
  | .int i, .int j => some (.frz (.int (i + j)))
  | .str i, .str j => if i.length + j.length ≤ lim then some (.frz (.str (i ++ j))) else none
  | .lst a, .lst b => if a.length + b.length ≤ lim then some (.own (.lst (a ++ b))) else none
  | .tup a, .tup b => if a ≠ [] ∧ a.length + b.length ≤ lim then some (.frz (.tup (a ++ b))) else none
  | _, _ => none
instance {a : List D} : Decidable (a ≠ []) := match a with
  | [] => isFalse fun h => h rfl
  | _ :: _ => isTrue fun h => nomatch h
def gInt (c : Int → Int → Bool) (f : Int → Int → D) : D → D → Option Sl
  | .int i, .int j => if c i j then some (.frz (f i j)) else none
  | _, _ => none
abbrev gSub := gInt (fun _ _ => true) fun i j => .int (i - j)
abbrev gLt := gInt (fun _ _ => true) fun i j => .bl (decide (i < j))
abbrev gLe := gInt (fun _ _ => true) fun i j => .bl (decide (i ≤ j))
abbrev gGt := gInt (fun _ _ => true) fun i j => .bl (decide (j < i))
abbrev gGe := gInt (fun _ _ => true) fun i j => .bl (decide (j ≤ i))
def mulOk (i j : Int) : Bool := decide ((-(2 ^ 64) < i ∧ i < 2 ^ 64) ∨ (-(2 ^ 64) < j ∧ j < 2 ^ 64)) || decide (i.natAbs.log2 + j.natAbs.log2 < 1000000)
def divOk (j : Int) : Bool := decide (0 < j) && decide (j.natAbs.log2 < 9000)
def powOk (i j : Int) : Bool := decide (0 ≤ j) && decide (j ≤ 1000000) && decide (i.natAbs < 2 ^ 64)
def gMul : D → D → Option Sl
  | .int i, .int j => if mulOk i j then some (.frz (.int (i * j))) else none
  | .lst a, .int k => if -(2 ^ 63) ≤ k ∧ k < 2 ^ 63 ∧ a.length * k.toNat ≤ lim then some (.own (.lst (List.replicate k.toNat a).flatten)) else none
  | _, _ => none
abbrev gDiv := gInt (fun _ j => divOk j) fun i j => .int (i / j)
abbrev gMod := gInt (fun _ j => decide (0 < j)) fun i j => .int (i % j)
abbrev gPow := gInt powOk fun i j => .int (i ^ j.toNat)
def gNeg : D → Option Sl
  | .int i => some (.frz (.int (-i)))
  | _ => none
def isN : D → Bool
  | .non => true
  | _ => false
def gIs (neg : Bool) : D → D → Option Sl
  | d, .non => some (.frz (.bl (neg != isN d)))
  | _, _ => none
section
variable {X : Cx} {C : Cd} {F H : Hp} {σ : L2.St} {env : DEnv}
theorem resInt {i : Int} : Res C F H env σ (.frz (.int i)) (.int i) := by show Rep _ _ _ _ _; exact rInt
theorem resBl {i : Bool} : Res C F H env σ (.frz (.bl i)) (.bl i) := by show Rep _ _ _ _ _; exact rBl
theorem resStr {i : Str} : Res C F H env σ (.frz (.str i)) (.str i) := by show Rep _ _ _ _ _; exact rStr
theorem resNon : Res C F H env σ (.frz .non) .non := by show Rep _ _ _ _ _; exact rNon
end
section
variable {X : Cx} {C : Cd}
theorem ok_int {c : Int → Int → Bool} {f : Int → Int → D} {P : Int → Int → Prop} {gv : Int → Int → V} (hp : ∀ i j, c i j = true → P i j) (hv : ∀ F i j, Rep C.K C.mg F (f i j) (gv i j)) : OpOk C (rI P gv) (gInt c f) := by
  intro F H σ env x y d e s Q I rx ry hg k
  unfold gInt at hg
  split at hg
  · rename_i i j
    cases hc : c i j with
    | false => simp [hc] at hg
    | true =>
      simp only [hc, if_true] at hg
      cases hg
      exact ⟨i, j, rx.int, ry.int, hp i j hc, k _ F H I (.refl _) (hv F i j)⟩
  · cases hg
theorem ok_int0 {f : Int → Int → D} {gv : Int → Int → V} (hv : ∀ F i j, Rep C.K C.mg F (f i j) (gv i j)) : OpOk C (rI0 gv) (gInt (fun _ _ => true) f) := by
  intro F H σ env x y d e s Q I rx ry hg k
  unfold gInt at hg
  split at hg
  · rename_i i j
    simp only [if_true] at hg
    cases hg
    exact ⟨i, j, rx.int, ry.int, k _ F H I (.refl _) (hv F i j)⟩
  · cases hg
theorem ok_sub : OpOk C (rI0 fun i j => .int (i - j)) gSub := ok_int0 fun _ _ _ => rInt
theorem ok_lt : OpOk C (rI0 fun i j => .bl (decide (i < j))) gLt := ok_int0 fun _ _ _ => rBl
theorem ok_le : OpOk C (rI0 fun i j => .bl (decide (i ≤ j))) gLe := ok_int0 fun _ _ _ => rBl
theorem ok_gt : OpOk C (rI0 fun i j => .bl (decide (j < i))) gGt := ok_int0 fun _ _ _ => rBl
theorem ok_ge : OpOk C (rI0 fun i j => .bl (decide (j ≤ i))) gGe := ok_int0 fun _ _ _ => rBl
def rAddA (K : PySem.W.Frag) : R2 := fun x y H Q => (rI0 fun i j => .int (i + j)) x y H Q ∨ (∃ i j, x = .str i ∧ y = .str j ∧ i.length + j.length ≤ sizeLine ∧ Q (.str (i ++ j)) H) ∨ rCat x y H Q ∨ rCatT K x y H Q
theorem op_addA (ft : Fit X C) : OpR X (binaryOp .Add) (rAddA C.K) := by
  rw [← ft.k]
  exact OpR.or op_add (OpR.or op_add_str (OpR.or op_cat op_catT))
theorem ok_add : OpOk C (rAddA C.K) gAdd := by
  intro F H σ env x y d e s Q I rx ry hg k
  unfold gAdd at hg
  split at hg
  · rename_i i j
    cases hg
    exact .inl ⟨i, j, rx.int, ry.int, k _ F H I (.refl _) resInt⟩
  · rename_i i j
    split at hg
    · rename_i h
      cases hg
      exact .inr (.inl ⟨i, j, rx.str, ry.str, lim_le h, k _ F H I (.refl _) resStr⟩)
    · cases hg
  · rename_i a b
    split at hg
    · rename_i h
      cases hg
      obtain ⟨p, xs, rfl, h1, h2⟩ := rx.lst
      obtain ⟨q, ys, rfl, h3, h4⟩ := ry.lst
      refine .inr (.inr (.inl ⟨p, q, xs, ys, rfl, rfl, I.fh _ _ h1, I.fh _ _ h3, by rw [h2.len, h4.len]; exact lim_le h, fun l nl => ?_⟩))
      obtain ⟨I2, fr⟩ := I.newList nl (h2.app h4)
      exact k _ _ _ I2 (.refl _) ⟨l, rfl, fr⟩
    · cases hg
  · rename_i a b
    split at hg
    · rename_i h
      cases hg
      obtain ⟨p, xs, rfl, h1, h2⟩ := rx.tup
      obtain ⟨q, ys, rfl, h3, h4⟩ := ry.tup
      refine .inr (.inr (.inr ⟨p, q, xs, ys, rfl, rfl, sameT I.fh h1, sameT I.fh h3, ?_, by rw [h2.len, h4.len]; exact lim_le h.2, fun hy => ?_, fun _ l nl => ?_⟩))
      · intro z
        have := h2.len
        rw [z] at this
        exact h.1 (List.eq_nil_of_length_eq_zero this.symm)
      · have hb : b = [] := by
          have := h4.len
          rw [hy] at this
          exact List.eq_nil_of_length_eq_zero this.symm
        subst hb
        rw [List.append_nil] at k
        refine k _ _ _ I (.refl _) ?_
        show Rep _ _ _ _ _
        unfold Rep
        exact ⟨p, xs, rfl, h1, h2⟩
      · have sF := I.same (o := .tup (xs ++ ys)) nl
        exact k _ _ _ (I.alloc nl) sF (Rep.ofTup upd_same ((h2.app h4).mono sF))
    · cases hg
  · cases hg
def rMulA : R2 := fun x y H Q => (rI CMul fun i j => .int (i * j)) x y H Q ∨ (rI CMulW fun i j => .int (i * j)) x y H Q ∨ rRep x y H Q
theorem op_mulA : OpR X (binaryOp .Mult) rMulA := OpR.or op_mul (OpR.or op_mulW op_rep)
theorem RepL.rep {K : PySem.W.Frag} {mg : Str → Option Value} {H : Hp} {ds : List D} {xs : List V} (h : RepL K mg H ds xs) : ∀ n : Nat, RepL K mg H (List.replicate n ds).flatten (List.replicate n xs).flatten
  | 0 => by simpa using repNil
  | n + 1 => by
    rw [List.replicate_succ, List.replicate_succ, List.flatten_cons, List.flatten_cons]
    exact h.app (RepL.rep h n)
theorem ok_mul : OpOk C rMulA gMul := by
  intro F H σ env x y d e s Q I rx ry hg k
  unfold gMul at hg
  split at hg
  · rename_i i j
    split at hg
    · rename_i h
      cases hg
      unfold mulOk at h
      rw [Bool.or_eq_true] at h
      rcases h with h | h
      · have h' := of_decide_eq_true h
        exact .inl ⟨i, j, rx.int, ry.int, h', k _ F H I (.refl _) resInt⟩
      · have h' := of_decide_eq_true h
        exact .inr (.inl ⟨i, j, rx.int, ry.int, h', k _ F H I (.refl _) resInt⟩)
    · cases hg
  · rename_i a b
    split at hg
    · rename_i h
      cases hg
      obtain ⟨p, xs, rfl, h1, h2⟩ := rx.lst
      refine .inr (.inr ⟨p, b, xs, rfl, ry.int, I.fh _ _ h1, h.1, h.2.1, by rw [h2.len]; exact lim_le h.2.2, fun l nl => ?_⟩)
      obtain ⟨I2, fr⟩ := I.newList nl (h2.rep b.toNat)
      exact k _ _ _ I2 (.refl _) ⟨l, rfl, fr⟩
    · cases hg
  · cases hg
theorem ok_div : OpOk C (rI CDivW fun i j => .int (i / j)) gDiv := ok_int (fun i j h => by
  unfold divOk at h
  rw [Bool.and_eq_true] at h
  exact ⟨of_decide_eq_true h.1, of_decide_eq_true h.2⟩) (fun _ _ _ => rInt)
theorem ok_mod : OpOk C (rI (fun _ j => 0 < j) fun i j => .int (i % j)) gMod := ok_int (fun i j h => of_decide_eq_true h) (fun _ _ _ => rInt)
theorem ok_pow : OpOk C (rI CPow fun i j => .int (i ^ j.toNat)) gPow := ok_int (fun i j h => by
  unfold powOk at h
  rw [Bool.and_eq_true, Bool.and_eq_true] at h
  exact ⟨of_decide_eq_true h.1.1, of_decide_eq_true h.1.2, of_decide_eq_true h.2⟩) (fun _ _ _ => rInt)
theorem ok_neg : UnOk C (rU fun i => .int (-i)) gNeg := by
  intro F H σ env x d s Q I rx hg k
  unfold gNeg at hg
  split at hg
  · rename_i i
    cases hg
    exact ⟨i, rx.int, k _ F H I (.refl _) resInt⟩
  · cases hg
theorem rep_isN {K : PySem.W.Frag} {mg : Str → Option Value} {H : Hp} {d : D} {x : V} (r : Rep K mg H d x) : decide (x = .non) = isN d := by
  cases d <;> unfold Rep at r <;> first
    | (subst r; rfl)
    | (obtain ⟨a, xs, rfl, _⟩ := r; rfl)
    | (obtain ⟨a, rfl, _⟩ := r; rfl)
    | (obtain ⟨a, dx, xs, rfl, _⟩ := r; rfl)
theorem ok_is : OpOk C (fun x y H Q => y = .non ∧ Q (.bl (decide (x = .non))) H) (gIs false) := by
  intro F H σ env x y d e s Q I rx ry hg k
  unfold gIs at hg
  split at hg
  · cases hg
    refine ⟨ry.non, ?_⟩
    rw [rep_isN rx]
    refine k _ F H I (.refl _) ?_
    have : (false != isN d) = isN d := by cases isN d <;> rfl
    rw [this]
    exact resBl
  · cases hg
theorem ok_isNot : OpOk C (fun x y H Q => y = .non ∧ Q (.bl (!decide (x = .non))) H) (gIs true) := by
  intro F H σ env x y d e s Q I rx ry hg k
  unfold gIs at hg
  split at hg
  · cases hg
    refine ⟨ry.non, ?_⟩
    rw [rep_isN rx]
    refine k _ F H I (.refl _) ?_
    have : (true != isN d) = !isN d := by cases isN d <;> rfl
    rw [this]
    exact resBl
  · cases hg
end
end Dd

namespace Dd
open PySem PySem.Spec PyProof.Rows L2
/-! ### == -/
mutual
def toPy : D → Option PyData
  | .non => some .none
  | .bl b => some (.bool b)
  | .int i => some (.int i)
  | .str x => some (.str x)
  | .lst ds => (toPyL ds).map .list
  | .tup ds => (toPyL ds).map .tuple
  | .scr ns => some (.list (ns.map .int))
  | _ => none
def toPyL : List D → Option (List PyData)
  | [] => some []
  | d :: ds => match toPy d, toPyL ds with
    | some p, some ps => some (p :: ps)
    | _, _ => none
end
section
variable {K : PySem.W.Frag} {mg : Str → Option Value} {H : Hp}
theorem dpInts : ∀ ns : List Int, DpAll K H (ns.map V.int) (ns.map PyData.int)
  | [] => .nil
  | n :: r => .cons (.int n) (dpInts r)
mutual
theorem rep_dp : ∀ {d : D} {v : V} {p : PyData}, Rep K mg H d v → toPy d = some p → Dp K H v p
  | .non, v, p, r, e => by rw [r.non]; unfold toPy at e; cases e; exact .non
  | .bl b, v, p, r, e => by rw [r.bl]; unfold toPy at e; cases e; exact .bl b
  | .int b, v, p, r, e => by rw [r.int]; unfold toPy at e; cases e; exact .int b
  | .str b, v, p, r, e => by rw [r.str]; unfold toPy at e; cases e; exact .str b
  | .lst ds, v, p, r, e => by
    obtain ⟨a, xs, rfl, h1, h2⟩ := r.lst
    unfold toPy at e
    cases e2 : toPyL ds with
    | none => rw [e2] at e; cases e
    | some ps => rw [e2] at e; cases e; exact .lst (.inl (.inl h1)) (rep_dpL h2 e2)
  | .tup ds, v, p, r, e => by
    obtain ⟨a, xs, rfl, h1, h2⟩ := r.tup
    unfold toPy at e
    cases e2 : toPyL ds with
    | none => rw [e2] at e; cases e
    | some ps => rw [e2] at e; cases e; exact .tup h1 (rep_dpL h2 e2)
  | .scr ns, v, p, r, e => by
    obtain ⟨a, rfl, h1⟩ := r.scr
    unfold toPy at e
    cases e
    exact .lst h1 (dpInts ns)
  | .dK _ _, v, p, r, e => by unfold toPy at e; cases e
  | .dT _ _, v, p, r, e => by unfold toPy at e; cases e
  | .obj _ _ _, v, p, r, e => by unfold toPy at e; cases e
  | .ty _, v, p, r, e => by unfold toPy at e; cases e
  | .cls _, v, p, r, e => by unfold toPy at e; cases e
theorem rep_dpL : ∀ {ds : List D} {vs : List V} {ps : List PyData}, RepL K mg H ds vs → toPyL ds = some ps → DpAll K H vs ps
  | [], vs, ps, r, e => by rw [r.nil]; unfold toPyL at e; cases e; exact .nil
  | d :: ds, vs, ps, r, e => by
    obtain ⟨x, xs, rfl, h1, h2⟩ := r.cons
    unfold toPyL at e
    cases e1 : toPy d with
    | none => rw [e1] at e; cases e
    | some p =>
      cases e2 : toPyL ds with
      | none => rw [e1, e2] at e; cases e
      | some qs => rw [e1, e2] at e; cases e; exact .cons (rep_dp h1 e1) (rep_dpL h2 e2)
end
end
def plain (d : D) : Bool := match toPy d with
  | some p => SeqAt.shaped p
  | none => false
def pyEq (a b : D) : Bool := match toPy a, toPy b with
  | some p, some q => PyData.eqv p q
  | _, _ => false
def gEq (neg : Bool) (a b : D) : Option Sl := if plain a && plain b then some (.frz (.bl (neg != pyEq a b))) else none
section
variable {X : Cx} {C : Cd}
theorem plain_of {d : D} (h : plain d = true) : ∃ p, toPy d = some p ∧ SeqAt.shaped p = true := by
  unfold plain at h
  cases e : toPy d with
  | none => rw [e] at h; cases h
  | some p => rw [e] at h; exact ⟨p, rfl, h⟩
theorem ok_eq : OpOk C (rEqD C.K) (gEq false) := by
  intro F H σ env x y d e s Q I rx ry hg k
  unfold gEq at hg
  split at hg
  · rename_i h
    rw [Bool.and_eq_true] at h
    cases hg
    obtain ⟨p, e1, s1⟩ := plain_of h.1
    obtain ⟨q, e2, s2⟩ := plain_of h.2
    refine ⟨p, q, rep_dp (rx.mono I.fh) e1, rep_dp (ry.mono I.fh) e2, s1, s2, k _ F H I (.refl _) ?_⟩
    have pe : pyEq d e = PyData.eqv p q := by unfold pyEq; rw [e1, e2]
    have : (false != pyEq d e) = PyData.eqv p q := by rw [pe]; cases PyData.eqv p q <;> rfl
    rw [this]
    exact resBl
  · cases hg
theorem ok_ne : OpOk C (rNeD C.K) (gEq true) := by
  intro F H σ env x y d e s Q I rx ry hg k
  unfold gEq at hg
  split at hg
  · rename_i h
    rw [Bool.and_eq_true] at h
    cases hg
    obtain ⟨p, e1, s1⟩ := plain_of h.1
    obtain ⟨q, e2, s2⟩ := plain_of h.2
    refine ⟨p, q, rep_dp (rx.mono I.fh) e1, rep_dp (ry.mono I.fh) e2, s1, s2, k _ F H I (.refl _) ?_⟩
    have pe : pyEq d e = PyData.eqv p q := by unfold pyEq; rw [e1, e2]
    have : (true != pyEq d e) = !PyData.eqv p q := by rw [pe]; cases PyData.eqv p q <;> rfl
    rw [this]
    exact resBl
  · cases hg
theorem op_eqA (ft : Fit X C) (hu : X.A.units + 64 < cLine) : OpR X (compareOp .Eq) (rEqD C.K) := by rw [← ft.k]; exact op_eqD hu
theorem op_neA (ft : Fit X C) (hu : X.A.units + 64 < cLine) : OpR X (compareOp .NotEq) (rNeD C.K) := by rw [← ft.k]; exact op_neD hu
end
/-! ### in -/
def flatD : D → Bool
  | .non => true
  | .bl _ => true
  | .int _ => true
  | .str _ => true
  | _ => false
def eqF : D → D → Bool
  | .non, .non => true
  | .bl a, .bl b => a == b
  | .bl a, .int b => (if a then 1 else 0) == b
  | .int a, .bl b => a == (if b then 1 else 0)
  | .int a, .int b => a == b
  | .str a, .str b => a == b
  | _, _ => false
theorem rep_flat {K : PySem.W.Frag} {mg : Str → Option Value} {H : Hp} {d : D} {v : V} (r : Rep K mg H d v) (h : flatD d = true) : flatV v = true := by
  cases d <;> first | (cases h; done) | skip
  · rw [r.non]; rfl
  · rw [r.bl]; rfl
  · rw [r.int]; rfl
  · rw [r.str]; rfl
theorem rep_eqF {K : PySem.W.Frag} {mg : Str → Option Value} {H : Hp} {d e : D} {v w : V} (r : Rep K mg H d v) (r' : Rep K mg H e w) (h : flatD d = true) (h' : flatD e = true) : eqV v w = eqF d e := by
  cases d <;> first | (cases h; done) | skip
  all_goals (cases e <;> first | (cases h'; done) | skip)
  all_goals first
    | rw [r.non] | rw [r.bl] | rw [r.int] | rw [r.str]
  all_goals first
    | rw [r'.non] | rw [r'.bl] | rw [r'.int] | rw [r'.str]
  all_goals rfl
theorem rep_inV {K : PySem.W.Frag} {mg : Str → Option Value} {H : Hp} {d : D} {v : V} (r : Rep K mg H d v) (h : flatD d = true) : ∀ {ds : List D} {vs : List V}, RepL K mg H ds vs → ds.all flatD = true → vs.all flatV = true ∧ inV v vs = ds.any fun e => eqF e d
  | [], vs, rl, _ => by rw [rl.nil]; exact ⟨rfl, rfl⟩
  | e :: ds, vs, rl, ha => by
    obtain ⟨x, xs, rfl, h1, h2⟩ := rl.cons
    rw [List.all_cons, Bool.and_eq_true] at ha
    obtain ⟨i1, i2⟩ := rep_inV r h h2 ha.2
    refine ⟨?_, ?_⟩
    · rw [List.all_cons, rep_flat h1 ha.1, i1]; rfl
    · unfold inV at i2 ⊢
      rw [List.any_cons, List.any_cons, i2, rep_eqF h1 r ha.1 h]
def gIn (neg : Bool) : D → D → Option Sl
  | d, .lst ds => if flatD d && ds.all flatD then some (.frz (.bl (neg != ds.any fun e => eqF e d))) else none
  | d, .tup ds => if flatD d && ds.all flatD then some (.frz (.bl (neg != ds.any fun e => eqF e d))) else none
  | .str x, .str z => if x.cps.size = 1 then some (.frz (.bl (neg != decide (x.cps.getD 0 0 ∈ z.cps.toList)))) else none
  | _, _ => none
section
variable {X : Cx} {C : Cd}
def rInA (K : PySem.W.Frag) (neg : Bool) : R2 := fun x y H Q => rIn K neg x y H Q ∨ ∃ (c : Nat) (z : Str), x = .str ⟨#[c]⟩ ∧ y = .str z ∧ Q (.bl (neg != decide (c ∈ z.cps.toList))) H
theorem op_inA (ft : Fit X C) : OpR X (compareOp .In) (rInA C.K false) := by
  rw [← ft.k]
  refine OpR.or op_in_seq fun pins s σ H x y v u Q I rx ry ⟨c, z, h1, h2, q⟩ => op_in_sign pins s σ H x y v u Q I rx ry ⟨c, z, h1, h2, ?_⟩
  have : (false != decide (c ∈ z.cps.toList)) = decide (c ∈ z.cps.toList) := by cases decide (c ∈ z.cps.toList) <;> rfl
  rw [← this]
  exact q
theorem op_notInA (ft : Fit X C) : OpR X (compareOp .NotIn) (rInA C.K true) := by
  rw [← ft.k]
  refine OpR.or op_notIn_seq fun pins s σ H x y v u Q I rx ry ⟨c, z, h1, h2, q⟩ => op_notIn_sign pins s σ H x y v u Q I rx ry ⟨c, z, h1, h2, ?_⟩
  have : (true != decide (c ∈ z.cps.toList)) = !decide (c ∈ z.cps.toList) := by cases decide (c ∈ z.cps.toList) <;> rfl
  rw [← this]
  exact q
theorem neg_if (neg b : Bool) : (if neg = true then !b else b) = (neg != b) := by cases neg <;> cases b <;> rfl
theorem ok_in {neg : Bool} : OpOk C (rInA C.K neg) (gIn neg) := by
  intro F H σ env x y d e s Q I rx ry hg k
  unfold gIn at hg
  split at hg
  · split at hg
    · rename_i h
      rw [Bool.and_eq_true] at h
      cases hg
      obtain ⟨p, xs, rfl, h1, h2⟩ := ry.lst
      obtain ⟨i1, i2⟩ := rep_inV rx h.1 h2 h.2
      refine .inl ⟨p, xs, rfl, .inl (.inl (.inl (I.fh _ _ h1))), rep_flat rx h.1, i1, ?_⟩
      rw [i2, neg_if]
      exact k _ F H I (.refl _) resBl
    · cases hg
  · split at hg
    · rename_i h
      rw [Bool.and_eq_true] at h
      cases hg
      obtain ⟨p, xs, rfl, h1, h2⟩ := ry.tup
      obtain ⟨i1, i2⟩ := rep_inV rx h.1 h2 h.2
      refine .inl ⟨p, xs, rfl, .inr (sameT I.fh h1), rep_flat rx h.1, i1, ?_⟩
      rw [i2, neg_if]
      exact k _ F H I (.refl _) resBl
    · cases hg
  · rename_i w z
    split at hg
    · rename_i h
      cases hg
      refine .inr ⟨w.cps.getD 0 0, z, ?_, ry.str, k _ F H I (.refl _) resBl⟩
      rw [rx.str]
      obtain ⟨a⟩ := w
      obtain ⟨l⟩ := a
      simp at h
      match l, h with
      | [c], _ => rfl
    · cases hg
  · cases hg
end
/-! ### subscripts, slices, len -/
theorem RepL.atI {K : PySem.W.Frag} {mg : Str → Option Value} {H : Hp} {ds : List D} {xs : List V} {k : Int} {d : D} (r : RepL K mg H ds xs) (h : atI ds k = some d) : ∃ x, L2.atI xs k = some x ∧ Rep K mg H d x := by
  unfold L2.atI at h ⊢
  rw [r.len]
  cases e : ixN ds.length k with
  | none => rw [e] at h; cases h
  | some j =>
    rw [e] at h
    exact r.get h
theorem atI_map {α β : Type} (f : α → β) (xs : List α) (k : Int) : atI (xs.map f) k = (atI xs k).map f := by
  unfold atI
  rw [List.length_map]
  cases ixN xs.length k with
  | none => rfl
  | some j => simp
def gIx : D → D → Option Sl
  | .lst ds, .int k => (atI ds k).map .frz
  | .tup ds, .int k => (atI ds k).map .frz
  | .scr ns, .int k => (atI ns k).map fun i => .frz (.int i)
  | .str z, .int k => if z.length ≤ lim then (atI z.cps.toList k).map fun c => .frz (.str ⟨#[c]⟩) else none
  | _, _ => none
section
variable {X : Cx} {C : Cd} {a b e : Expr} {fa fb : DE} {pos : Pos}
theorem ok_ix : OpOk C (rIx C.K) gIx := by
  intro F H σ env x y d e s Q I rx ry hg k
  unfold gIx at hg
  split at hg
  · rename_i ds i
    cases e : atI ds i with
    | none => rw [e] at hg; cases hg
    | some z =>
      rw [e] at hg
      cases hg
      obtain ⟨p, xs, rfl, h1, h2⟩ := rx.lst
      obtain ⟨v, hv, rv⟩ := h2.atI e
      exact .inl ⟨p, xs, i, v, rfl, ry.int, .inl (.inl (I.fh _ _ h1)), hv, k _ F H I (.refl _) rv⟩
  · rename_i ds i
    cases e : atI ds i with
    | none => rw [e] at hg; cases hg
    | some z =>
      rw [e] at hg
      cases hg
      obtain ⟨p, xs, rfl, h1, h2⟩ := rx.tup
      obtain ⟨v, hv, rv⟩ := h2.atI e
      exact .inr (.inl ⟨p, xs, i, v, rfl, ry.int, sameT I.fh h1, hv, k _ F H I (.refl _) rv⟩)
  · rename_i ns i
    cases e : atI ns i with
    | none => rw [e] at hg; cases hg
    | some z =>
      rw [e] at hg
      cases hg
      obtain ⟨p, rfl, h1⟩ := rx.scr
      exact .inl ⟨p, _, i, .int z, rfl, ry.int, I.fh.seq h1, by rw [atI_map, e]; rfl, k _ F H I (.refl _) resInt⟩
  · rename_i z i
    split at hg
    · rename_i hz
      cases e : atI z.cps.toList i with
      | none => rw [e] at hg; cases hg
      | some c =>
        rw [e] at hg
        cases hg
        exact .inr (.inr ⟨z, i, c, rx.str, ry.int, lim_le hz, e, k _ F H I (.refl _) resStr⟩)
    · cases hg
  · cases hg
theorem ix_A (ft : Fit X C) : IxR X (rIx C.K) := by
  rw [← ft.k]
  exact IxR.or ix_list (IxR.or ix_tup ix_str)
theorem qe_ix (ft : Fit X C) (ha : PE X a (tD C fa)) (hb : PE X b (tD C fb)) (hs : PlainIx b := by exact fun _ _ => rfl) : PE X (.Subscript a b pos) (tD C (lift2 gIx fa fb)) :=
  PE.weak (pe_ix (ix_A ft) (qz ha) (qz hb) hs) fun _ _ _ h => t_op ok_ix h
/-- x[e], the name left as it is -/
def ixND (i : Nat) (fb : DE) : DE := fun env => match env[i]? with
  | some (some _) => (fb env).bind fun q => match q.2[i]? with
    | some (some s) => (match s.val with
      | some d => (match gIx d q.1.d with
        | some z => .ok (z, q.2)
        | none => .no)
      | none => .no)
    | _ => .no
  | _ => .no
/-- what a slot holds, read now -/
theorem In.peek {F H : Hp} {σ : L2.St} {env : DEnv} (I : In C F H σ env) {i : Nat} {s : Sl} {d0 : D} (hi : env[i]? = some (some s)) (hd0 : s.val = some d0) : ∃ v F', σ[i]? = some (some v) ∧ Same F F' ∧ Same F' H ∧ Rep C.K C.mg F' s.d v := by
  obtain ⟨v, hv, hs⟩ := I.sl i s hi
  cases s with
  | frz d => exact ⟨v, F, hv, .refl _, I.fh, hs⟩
  | exn c => cases hd0
  | own d =>
    obtain ⟨p, rfl, h1, h2, h3⟩ := hs
    obtain ⟨o, ho⟩ := h3.some
    refine ⟨_, upd F p o, hv, fun b x e => by rw [upd_ne (ne_of_none e h1)]; exact e, fun b x e => ?_, h3.rep ho h1⟩
    by_cases z : b = p
    · subst z; rw [upd_same] at e; cases e; exact ho
    · rw [upd_ne z] at e; exact I.fh _ _ e
  | bor d =>
    obtain ⟨p, rfl, h1, h2, h3⟩ := hs
    obtain ⟨o, ho⟩ := h3.some
    refine ⟨_, upd F p o, hv, fun b x e => by rw [upd_ne (ne_of_none e h1)]; exact e, fun b x e => ?_, h3.rep ho h1⟩
    by_cases z : b = p
    · subst z; rw [upd_same] at e; cases e; exact ho
    · rw [upd_ne z] at e; exact I.fh _ _ e
/-- an operation that reads its first operand as it stands now -/
def OpOkH (C : Cd) (r : R2) (g : D → D → Option Sl) : Prop := ∀ F H σ env x y d e s (Q : VK), In C F H σ env → Rep C.K C.mg H d x → Rep C.K C.mg F e y → g d e = some s →
  (∀ v F' H', In C F' H' σ env → Same F F' → Res C F' H' env σ s v → Q v H') → r x y H Q
def peek2 (g : D → D → Option Sl) (i : Nat) (fb : DE) : DE := fun env => match env[i]? with
  | some (some _) => (fb env).bind fun q => match q.2[i]? with
    | some (some s) => (match s.val with
      | some d => (match g d q.1.d with
        | some z => .ok (z, q.2)
        | none => .no)
      | none => .no)
    | _ => .no
  | _ => .no
theorem In.now {F H : Hp} {σ : L2.St} {env : DEnv} (I : In C F H σ env) {i : Nat} {s : Sl} {d0 : D} (hi : env[i]? = some (some s)) (hd : s.val = some d0) : ∃ v, σ[i]? = some (some v) ∧ Rep C.K C.mg H d0 v := by
  obtain ⟨v, F', h1, _, h2, h3⟩ := I.peek hi hd
  have e : s.d = d0 := by cases s <;> first | (cases hd; rfl) | cases hd
  rw [← e]
  exact ⟨v, h1, h3.mono h2⟩
theorem t_peek2 {r : R2} {g : D → D → Option Sl} (ok : OpOkH C r g) {i : Nat} {σ : L2.St} {H : Hp} {Q : VK} : tD C (peek2 g i fb) σ H Q → tOp r (tVar i) (tDz C fb) σ H Q := fun ⟨F, env, I, h⟩ => by
  unfold peek2 at h
  cases ei : env[i]? with
  | none => rw [ei] at h; exact h.elim
  | some z =>
    cases z with
    | none => rw [ei] at h; exact h.elim
    | some s0 =>
      rw [ei] at h
      obtain ⟨v, hv, _⟩ := I.sl i s0 ei
      refine ⟨v, hv, F, env, I, (Fin.bnd h).imp fun s e F1 H1 I1 s1 h1 y ry => ?_⟩
      cases e1 : e[i]? with
      | none => simp only [e1] at h1; exact h1.elim
      | some z =>
        cases z with
        | none => simp only [e1] at h1; exact h1.elim
        | some t =>
          simp only [e1] at h1
          cases ev : t.val with
          | none => simp only [ev] at h1; exact h1.elim
          | some d0 =>
          simp only [ev] at h1
          obtain ⟨v', hv', rv⟩ := I1.now e1 ev
          rw [hv] at hv'
          cases hv'
          cases eg : g d0 s.d with
          | none => simp only [eg] at h1; exact h1.elim
          | some w => simp only [eg] at h1; exact ok F1 H1 σ e v y _ _ w Q I1 rv ry eg fun u F' H' I' s' r' => h1 F' H' I' s' u r'
theorem ok_eqH : OpOkH C (rEqD C.K) (gEq false) := by
  intro F H σ env x y d e s Q I rx ry hg k
  unfold gEq at hg
  split at hg
  · rename_i h
    rw [Bool.and_eq_true] at h
    cases hg
    obtain ⟨p, e1, s1⟩ := plain_of h.1
    obtain ⟨q, e2, s2⟩ := plain_of h.2
    refine ⟨p, q, rep_dp rx e1, rep_dp (ry.mono I.fh) e2, s1, s2, k _ F H I (.refl _) ?_⟩
    have pe : pyEq d e = PyData.eqv p q := by unfold pyEq; rw [e1, e2]
    have : (false != pyEq d e) = PyData.eqv p q := by rw [pe]; cases PyData.eqv p q <;> rfl
    rw [this]
    exact resBl
  · cases hg
theorem ok_neH : OpOkH C (rNeD C.K) (gEq true) := by
  intro F H σ env x y d e s Q I rx ry hg k
  unfold gEq at hg
  split at hg
  · rename_i h
    rw [Bool.and_eq_true] at h
    cases hg
    obtain ⟨p, e1, s1⟩ := plain_of h.1
    obtain ⟨q, e2, s2⟩ := plain_of h.2
    refine ⟨p, q, rep_dp rx e1, rep_dp (ry.mono I.fh) e2, s1, s2, k _ F H I (.refl _) ?_⟩
    have pe : pyEq d e = PyData.eqv p q := by unfold pyEq; rw [e1, e2]
    have : (true != pyEq d e) = !PyData.eqv p q := by rw [pe]; cases PyData.eqv p q <;> rfl
    rw [this]
    exact resBl
  · cases hg
theorem qe_cmpN {i : Nat} {op : CmpOp} {r : R2} {g : D → D → Option Sl} (ho : OpR X (compareOp op) r) (ok : OpOkH C r g) (ha : PE X a (tVar i)) (hb : PE X b (tD C fb)) (hm : behindInMarks op b = false) : PE X (.Compare a [op] [b] pos) (tD C (peek2 g i fb)) :=
  PE.weak (pe_cmpR ho ha (qz hb) hm) fun _ _ _ h => t_peek2 ok h
theorem qt_cmpN {i : Nat} {op : CmpOp} {r : R2} {g : D → D → Option Sl} (ho : OpR X (compareOp op) r) (ok : OpOkH C r g) (ha : PE X a (tVar i)) (hb : PE X b (tD C fb)) (hm : behindInMarks op b = false) : PT X (.Compare a [op] [b] pos) (tDT C (boolT (peek2 g i fb))) :=
  PT.weak (pt_cmpR ho ha (qz hb) hm) fun _ _ _ h => t_peek2 ok (tz_t (t_bool h))
theorem qe_ixN {i : Nat} (ft : Fit X C) (ha : PE X a (tVar i)) (hb : PE X b (tD C fb)) (hs : PlainIx b := by exact fun _ _ => rfl) : PE X (.Subscript a b pos) (tD C (ixND i fb)) :=
  PE.weak (pe_ix (ix_A ft) ha (qz hb) hs) fun σ H Q ⟨F, env, I, h⟩ => by
    unfold ixND at h
    cases ei : env[i]? with
    | none => rw [ei] at h; exact h.elim
    | some z =>
      cases z with
      | none => rw [ei] at h; exact h.elim
      | some s0 =>
        rw [ei] at h
        obtain ⟨v, hv, _⟩ := I.sl i s0 ei
        refine ⟨v, hv, F, env, I, (Fin.bnd h).imp fun s e F1 H1 I1 s1 h1 y ry => ?_⟩
        cases e1 : e[i]? with
        | none => simp only [e1] at h1; exact h1.elim
        | some z =>
          cases z with
          | none => simp only [e1] at h1; exact h1.elim
          | some t =>
            simp only [e1] at h1
            obtain ⟨v', hv', rv⟩ := I1.sl i t e1
            rw [hv] at hv'
            cases hv'
            cases ev : t.val with
            | none => simp only [ev] at h1; exact h1.elim
            | some d0 =>
            simp only [ev] at h1
            cases eg : gIx d0 s.d with
            | none => simp only [eg] at h1; exact h1.elim
            | some w =>
              simp only [eg] at h1
              have own : ∀ p d, v = .ref p → d0 = d → Own C.K C.mg F1 H1 d p → rIx C.K v y H1 Q := by
                rintro p d rfl hd ho
                rw [hd] at eg
                cases d <;> first | (exact ho.elim) | skip
                · rename_i ds
                  obtain ⟨xs, hx, hr⟩ := ho
                  cases hk : s.d with
                  | int k =>
                    rw [hk] at eg ry
                    cases ea : atI ds k with
                    | none => simp only [gIx, ea] at eg; cases eg
                    | some u =>
                      simp only [gIx, ea] at eg
                      cases eg
                      obtain ⟨x, hx', rx⟩ := hr.atI ea
                      exact .inl ⟨p, xs, k, x, rfl, ry.int, .inl (.inl hx), hx', h1 F1 H1 I1 (.refl _) x rx⟩
                  | _ => rw [hk] at eg; cases eg
                · cases eg
              cases t with
              | frz d => cases ev; exact ok_ix F1 H1 σ e v y _ _ w Q I1 rv ry eg fun u F' H' I' s' r' => h1 F' H' I' s' u r'
              | exn c => cases ev
              | own d => cases ev; obtain ⟨p, rfl, _, _, ho⟩ := rv; exact own p _ rfl rfl ho
              | bor d => cases ev; obtain ⟨p, rfl, _, _, ho⟩ := rv; exact own p _ rfl rfl ho
end
end Dd

namespace Dd
open PySem PySem.Spec PyProof.Rows L2
/-! ### slices -/
def cutL {α : Type} (xs : List α) (lo hi : Option Int) : List α := (xs.drop (HT.sIx xs.length 0 lo)).take (HT.sIx xs.length xs.length hi - HT.sIx xs.length 0 lo)
abbrev DO := DEnv → R DEnv (Option Int × DEnv)
def partN : DO := fun env => .ok (none, env)
def partD (f : DE) : DO := fun env => (f env).bind fun p => match p.1.d with
  | .int i => .ok (some i, p.2)
  | _ => .no
def tDO (C : Cd) (f : DO) : TO := fun σ H Q => ∃ F env, In C F H σ env ∧ Fin C F σ (f env) fun o _ _ H' => Q o H'
def gSl (d : D) (lo hi : Option Int) : Option Sl := match d with
  | .lst ds => some (.own (.lst (cutL ds lo hi)))
  | .scr ns => some (.own (.lst ((cutL ns lo hi).map .int)))
  | .tup ds => if HT.sIx ds.length 0 lo = 0 ∧ HT.sIx ds.length ds.length hi = ds.length then none else some (.frz (.tup (cutL ds lo hi)))
  | .str z => if z.length ≤ lim then some (.frz (.str (cutS z lo hi))) else none
  | _ => none
def sliceD (fa : DE) (fl fh : DO) : DE := fun env => (fa env).bind fun p => (fl p.2).bind fun q => (fh q.2).bind fun r => match gSl p.1.d q.1 r.1 with
  | some s => .ok (s, r.2)
  | none => .no
section
variable {X : Cx} {C : Cd} {e a b : Expr} {es : List Expr} {f fa fb : DE} {fl fh : DO} {pos p2 : Pos} {lo hi : Option Expr}
theorem qo_none : PO X none (tDO C partN) := PO.weak po_none fun σ H Q ⟨F, env, I, h⟩ => h.here I
theorem qo_some (h : PE X e (tD C f)) : PO X (some e) (tDO C (partD f)) := PO.weak (po_some (qz h)) fun σ H Q ⟨F, env, I, h⟩ => ⟨F, env, I, (Fin.bnd h).imp fun s e F1 H1 I1 s1 h1 x rx => by
  cases ed : s.d with
  | int i => simp only [ed] at h1 rx; exact ⟨i, rx.int, h1.here I1⟩
  | _ => simp only [ed] at h1; exact h1.elim⟩
theorem RepL.cut {K : PySem.W.Frag} {mg : Str → Option Value} {H : Hp} {ds : List D} {xs : List V} (r : RepL K mg H ds xs) (l h : Option Int) : RepL K mg H (cutL ds l h) (cutV xs l h) := by
  unfold cutL cutV
  rw [r.len]
  exact (r.drop _).take _
def rSlA (K : PySem.W.Frag) : V → Option Int → Option Int → Hp → VK → Prop := fun x l h H Q => rSlL K x l h H Q ∨ rSlT K x l h H Q ∨ rSlS x l h H Q
theorem sl_A (ft : Fit X C) : SlR X (rSlA C.K) := by
  rw [← ft.k]
  exact SlR.or sl_list (SlR.or sl_tup sl_str)
theorem cutL_map {α β : Type} (g : α → β) (xs : List α) (l h : Option Int) : cutL (xs.map g) l h = (cutL xs l h).map g := by
  unfold cutL
  rw [List.length_map, List.map_take, List.map_drop]
theorem ok_sl {F H : Hp} {σ : L2.St} {env : DEnv} {x : V} {d : D} {l h : Option Int} {s : Sl} {Q : VK} (I : In C F H σ env) (rx : Rep C.K C.mg F d x) (hg : gSl d l h = some s)
    (k : ∀ v F' H', In C F' H' σ env → Same F F' → Res C F' H' env σ s v → Q v H') : rSlA C.K x l h H Q := by
  unfold gSl at hg
  split at hg
  · cases hg
    obtain ⟨p, xs, rfl, h1, h2⟩ := rx.lst
    refine .inl ⟨p, xs, rfl, .inl (.inl (I.fh _ _ h1)), fun q nq => ?_⟩
    obtain ⟨I2, fr⟩ := I.newList nq (h2.cut l h)
    exact k _ _ _ I2 (.refl _) ⟨q, rfl, fr⟩
  · rename_i ns
    cases hg
    obtain ⟨p, rfl, h1⟩ := rx.scr
    refine .inl ⟨p, _, rfl, I.fh.seq h1, fun q nq => ?_⟩
    have e : cutV (ns.map V.int) l h = (cutL ns l h).map V.int := cutL_map V.int ns l h
    rw [e]
    obtain ⟨I2, fr⟩ := I.newList nq (RepL.ints (K := C.K) (mg := C.mg) (H := F) (ns := cutL ns l h))
    exact k _ _ _ I2 (.refl _) ⟨q, rfl, fr⟩
  · rename_i ds
    split at hg
    · cases hg
    · rename_i hz
      cases hg
      obtain ⟨p, xs, rfl, h1, h2⟩ := rx.tup
      refine .inr (.inl ⟨p, xs, rfl, sameT I.fh h1, by rw [h2.len]; exact hz, fun q nq => ?_⟩)
      have sF := I.same (o := .tup (cutV xs l h)) nq
      exact k _ _ _ (I.alloc nq) sF (Rep.ofTup upd_same ((h2.cut l h).mono sF))
  · rename_i z
    split at hg
    · rename_i hz
      cases hg
      exact .inr (.inr ⟨z, rx.str, lim_le hz, k _ F H I (.refl _) resStr⟩)
    · cases hg
  · cases hg
theorem qe_slice (ft : Fit X C) (ha : PE X a (tD C fa)) (hl : PO X lo (tDO C fl)) (hh : PO X hi (tDO C fh)) : PE X (.Subscript a (.Slice lo hi none p2) pos) (tD C (sliceD fa fl fh)) :=
  PE.weak (pe_slice (sl_A ft) (qz ha) hl hh) fun σ H Q ⟨F, env, I, h⟩ => ⟨F, env, I, (Fin.bnd h).imp fun s e F1 H1 I1 s1 h1 x rx => ⟨F1, e, I1, (Fin.bnd h1).imp fun o e2 F2 H2 I2 s2 h2 => ⟨F2, e2, I2, (Fin.bnd h2).imp fun o' e3 F3 H3 I3 s3 h3 => by
    cases eg : gSl s.d o o' with
    | none => simp only [eg] at h3; exact h3.elim
    | some z => simp only [eg] at h3; exact ok_sl I3 (rx.mono (s2.trans s3)) eg fun v F' H' I' s' r' => h3 F' H' I' s' v r'⟩⟩⟩
end
/-! ### built-ins -/
def callG (g : List D → Option Sl) (fs : List DE) : DE := fun env => (argsD fs env).bind fun p => match g p.1 with
  | some s => .ok (s, p.2)
  | none => .no
def CaOk (C : Cd) (r : List V → Hp → VK → Prop) (g : List D → Option Sl) : Prop := ∀ F H σ env vs ds s (Q : VK), In C F H σ env → RepL C.K C.mg F ds vs → g ds = some s →
  (∀ v F' H', In C F' H' σ env → Same F F' → Res C F' H' env σ s v → Q v H') → r vs H Q
section
variable {X : Cx} {C : Cd} {e : Expr} {es : List Expr} {fs : List DE} {x : Str} {id T : String} {p pos : Pos}
theorem t_ca {r : List V → Hp → VK → Prop} {g : List D → Option Sl} (ok : CaOk C r g) {σ : L2.St} {H : Hp} {Q : VK} : tD C (callG g fs) σ H Q → tCB r (tDA C fs) σ H Q := fun ⟨F, env, I, h⟩ =>
  ⟨F, env, I, (Fin.bnd h).imp fun ds e F1 H1 I1 s1 h1 vs rv => by
    cases eg : g ds with
    | none => simp only [eg] at h1; exact h1.elim
    | some z => simp only [eg] at h1; exact ok F1 H1 σ e vs ds z Q I1 rv eg fun v F' H' I' s' r' => h1 F' H' I' s' v r'⟩
theorem qe_callB' {r : List V → Hp → VK → Prop} {g : List D → Option Sl} (hc : CallR X (.builtin id) r) (ok : CaOk C r g) (hg : Gl X x) (hm : X.mg x = none) (hv : bootBuiltins x = some (.builtin id)) (ha : PA X (e :: es) (tDA C fs)) (hn : x ≠ "__name__" := by decide) (hdb : (x == ("__debug__" : Str)) = false := by decide)
    (he : starEach (e :: es) X.env = (false, eval e X.env) :: starEach es X.env := by rfl) (hpl : (backTo pos (starEach es X.env)).any (·.1) = false := by rfl) : PE X (.Call (.Name x p) (e :: es) [] pos) (tD C (callG g fs)) :=
  PE.weak (pe_callB hc hg hm hv ha hn hdb he hpl) fun _ _ _ h => t_ca ok h
theorem qe_callT {r : List V → Hp → VK → Prop} {g : List D → Option Sl} (hc : CallR X (.type T) r) (ok : CaOk C r g) (hg : Gl X x) (hm : X.mg x = none) (hv : bootBuiltins x = some (.type T)) (ha : PA X (e :: es) (tDA C fs)) (hn : x ≠ "__name__" := by decide) (hdb : (x == ("__debug__" : Str)) = false := by decide)
    (he : starEach (e :: es) X.env = (false, eval e X.env) :: starEach es X.env := by rfl) (hpl : (backTo pos (starEach es X.env)).any (·.1) = false := by rfl) : PE X (.Call (.Name x p) (e :: es) [] pos) (tD C (callG g fs)) :=
  PE.weak (pe_callTy hc hg hm hv ha hn hdb he hpl) fun _ _ _ h => t_ca ok h
end

/-! ### each one's rule -/
def gLen : List D → Option Sl
  | [.lst ds] => some (.frz (.int ds.length))
  | [.tup ds] => some (.frz (.int ds.length))
  | [.scr ns] => some (.frz (.int ns.length))
  | [.str z] => if z.length ≤ lim then some (.frz (.int z.length)) else none
  | _ => none
def gMax2 : List D → Option Sl
  | [.int i, .int j] => some (.frz (.int (if j > i then j else i)))
  | _ => none
def gMin2 : List D → Option Sl
  | [.int i, .int j] => some (.frz (.int (if j < i then j else i)))
  | _ => none
def intsOf : List D → Option (List Int)
  | [] => some []
  | .int i :: r => (intsOf r).map (i :: ·)
  | _ => none
def boolsOf : List D → Option (List Bool)
  | [] => some []
  | .bl i :: r => (boolsOf r).map (i :: ·)
  | _ => none
def maxL : List Int → Int
  | [] => 0
  | [a] => a
  | a :: r => max a (maxL r)
def minL : List Int → Int
  | [] => 0
  | [a] => a
  | a :: r => min a (minL r)
def onInts (k : List Int → Option Sl) : List D → Option Sl
  | [.lst ds] => (intsOf ds).bind k
  | _ => none
def onBools (k : List Bool → Option Sl) : List D → Option Sl
  | [.lst ds] => (boolsOf ds).bind k
  | _ => none
abbrev gSum := onInts fun ns => some (.frz (.int ns.sum))
abbrev gMaxL := onInts fun ns => if ns = [] then none else some (.frz (.int (maxL ns)))
abbrev gMinL := onInts fun ns => if ns = [] then none else some (.frz (.int (minL ns)))
abbrev gAll := onBools fun bs => some (.frz (.bl (bs.all id)))
abbrev gAny := onBools fun bs => some (.frz (.bl (bs.any id)))
def gList : List D → Option Sl
  | [.lst ds] => some (.own (.lst ds))
  | [.tup ds] => some (.own (.lst ds))
  | [.scr ns] => some (.own (.lst (ns.map .int)))
  | _ => none
def gTuple : List D → Option Sl
  | [.lst ds] => some (.frz (.tup ds))
  | [.tup ds] => some (.frz (.tup ds))
  | _ => none
def gIntC : List D → Option Sl
  | [.int i] => some (.frz (.int i))
  | [.bl b] => some (.frz (.int (if b then 1 else 0)))
  | _ => none
def tyN : D → Option String
  | .non => some "NoneType"
  | .bl _ => some "bool"
  | .int _ => some "int"
  | .str _ => some "str"
  | .lst _ => some "list"
  | .tup _ => some "tuple"
  | .scr _ => some "list"
  | .dK _ _ => some "dict"
  | .dT _ _ => some "dict"
  | _ => none
def isiB (d : D) (t : String) : Option Bool := (tyN d).bind fun a => kitB a t
def gIsi : List D → Option Sl
  | [d, .ty t] => (isiB d t).map fun b => .frz (.bl b)
  | _ => none
def isiAny (d : D) : List String → Option Bool
  | [] => some false
  | t :: r => match isiB d t with
    | some true => some true
    | some false => isiAny d r
    | none => none
section
variable {X : Cx} {C : Cd} {F H : Hp} {K : PySem.W.Frag} {mg : Str → Option Value}
theorem rep1 {d : D} {vs : List V} (r : RepL K mg H [d] vs) : ∃ x, vs = [x] ∧ Rep K mg H d x := by
  obtain ⟨x, t, rfl, h1, h2⟩ := r.cons
  rw [h2.nil]
  exact ⟨x, rfl, h1⟩
theorem rep2 {d e : D} {vs : List V} (r : RepL K mg H [d, e] vs) : ∃ x y, vs = [x, y] ∧ Rep K mg H d x ∧ Rep K mg H e y := by
  obtain ⟨x, t, rfl, h1, h2⟩ := r.cons
  obtain ⟨y, rfl, h3⟩ := rep1 h2
  exact ⟨x, y, rfl, h1, h3⟩
theorem ints_of : ∀ {ds : List D} {xs : List V} {ns : List Int}, RepL K mg H ds xs → intsOf ds = some ns → xs = ns.map V.int
  | [], xs, ns, r, e => by rw [r.nil]; unfold intsOf at e; cases e; rfl
  | d :: ds, xs, ns, r, e => by
    obtain ⟨x, t, rfl, h1, h2⟩ := r.cons
    unfold intsOf at e
    split at e
    · rename_i q; cases q
    · rename_i q
      cases q
      cases e2 : intsOf ds with
      | none => rw [e2] at e; cases e
      | some ms => rw [e2] at e; cases e; rw [h1.int, ints_of h2 e2]; rfl
    · cases e
theorem bools_of : ∀ {ds : List D} {xs : List V} {ns : List Bool}, RepL K mg H ds xs → boolsOf ds = some ns → xs = ns.map V.bl
  | [], xs, ns, r, e => by rw [r.nil]; unfold boolsOf at e; cases e; rfl
  | d :: ds, xs, ns, r, e => by
    obtain ⟨x, t, rfl, h1, h2⟩ := r.cons
    unfold boolsOf at e
    split at e
    · rename_i q; cases q
    · rename_i q
      cases q
      cases e2 : boolsOf ds with
      | none => rw [e2] at e; cases e
      | some ms => rw [e2] at e; cases e; rw [h1.bl, bools_of h2 e2]; rfl
    · cases e
theorem ok_len : CaOk C (fun xs H Q => ∃ x n, xs = [x] ∧ LenV C.K x H n ∧ Q (.int n) H) gLen := by
  intro F H σ env vs ds s Q I r hg k
  unfold gLen at hg
  split at hg
  · obtain ⟨x, rfl, rx⟩ := rep1 r
    cases hg
    obtain ⟨p, xs, rfl, h1, h2⟩ := rx.lst
    exact ⟨_, _, rfl, .inl ⟨xs, .inl (.inl (I.fh _ _ h1)), rfl⟩, by rw [h2.len]; exact k _ F H I (.refl _) resInt⟩
  · obtain ⟨x, rfl, rx⟩ := rep1 r
    cases hg
    obtain ⟨p, xs, rfl, h1, h2⟩ := rx.tup
    exact ⟨_, _, rfl, .inr ⟨xs, sameT I.fh h1, rfl⟩, by rw [h2.len]; exact k _ F H I (.refl _) resInt⟩
  · rename_i ns
    obtain ⟨x, rfl, rx⟩ := rep1 r
    cases hg
    obtain ⟨p, rfl, h1⟩ := rx.scr
    exact ⟨_, _, rfl, .inl ⟨_, I.fh.seq h1, rfl⟩, by rw [List.length_map]; exact k _ F H I (.refl _) resInt⟩
  · obtain ⟨x, rfl, rx⟩ := rep1 r
    split at hg
    · rename_i hz
      cases hg
      rw [rx.str]
      exact ⟨_, _, rfl, ⟨lim_le hz, rfl⟩, k _ F H I (.refl _) resInt⟩
    · cases hg
  · cases hg
theorem ca_len (ft : Fit X C) : CallR X (.builtin "len") (fun xs H Q => ∃ x n, xs = [x] ∧ LenV C.K x H n ∧ Q (.int n) H) := by rw [← ft.k]; exact call_len
theorem ok_max2 : CaOk C (fun xs H Q => ∃ i j, xs = [.int i, .int j] ∧ Q (.int (if j > i then j else i)) H) gMax2 := by
  intro F H σ env vs ds s Q I r hg k
  unfold gMax2 at hg
  split at hg
  · rename_i i j
    cases hg
    obtain ⟨x, y, rfl, rx, ry⟩ := rep2 r
    rw [rx.int, ry.int]
    exact ⟨i, j, rfl, k _ F H I (.refl _) resInt⟩
  · cases hg
theorem ok_min2 : CaOk C (fun xs H Q => ∃ i j, xs = [.int i, .int j] ∧ Q (.int (if j < i then j else i)) H) gMin2 := by
  intro F H σ env vs ds s Q I r hg k
  unfold gMin2 at hg
  split at hg
  · rename_i i j
    cases hg
    obtain ⟨x, y, rfl, rx, ry⟩ := rep2 r
    rw [rx.int, ry.int]
    exact ⟨i, j, rfl, k _ F H I (.refl _) resInt⟩
  · cases hg
theorem ok_onInts {kk : List Int → Option Sl} {r : List V → Hp → VK → Prop} (h : ∀ F H σ env (Q : VK) a ns s, In C F H σ env → SqL C.K H a (ns.map V.int) → kk ns = some s → (∀ v F' H', In C F' H' σ env → Same F F' → Res C F' H' env σ s v → Q v H') → r [.ref a] H Q) : CaOk C r (onInts kk) := by
  intro F H σ env vs ds s Q I rr hg k
  unfold onInts at hg
  split at hg
  · rename_i zs
    cases e : intsOf zs with
    | none => rw [e] at hg; cases hg
    | some ns =>
      rw [e] at hg
      obtain ⟨x, rfl, rx⟩ := rep1 rr
      obtain ⟨p, xs, rfl, h1, h2⟩ := rx.lst
      rw [ints_of h2 e] at h1
      exact h F H σ env Q p ns s I (.inl (.inl (I.fh _ _ h1))) hg k
  · cases hg
theorem ok_onBools {kk : List Bool → Option Sl} {r : List V → Hp → VK → Prop} (h : ∀ F H σ env (Q : VK) a ns s, In C F H σ env → SqL C.K H a (ns.map V.bl) → kk ns = some s → (∀ v F' H', In C F' H' σ env → Same F F' → Res C F' H' env σ s v → Q v H') → r [.ref a] H Q) : CaOk C r (onBools kk) := by
  intro F H σ env vs ds s Q I rr hg k
  unfold onBools at hg
  split at hg
  · rename_i zs
    cases e : boolsOf zs with
    | none => rw [e] at hg; cases hg
    | some ns =>
      rw [e] at hg
      obtain ⟨x, rfl, rx⟩ := rep1 rr
      obtain ⟨p, xs, rfl, h1, h2⟩ := rx.lst
      rw [bools_of h2 e] at h1
      exact h F H σ env Q p ns s I (.inl (.inl (I.fh _ _ h1))) hg k
  · cases hg
theorem ok_sum : CaOk C (rSum C.K) gSum := ok_onInts fun F H σ env Q a ns s I hs hg k => by
  cases hg
  exact ⟨a, ns, rfl, hs, k _ F H I (.refl _) resInt⟩
theorem maxL_eq : ∀ {ns : List Int} {m : Int}, m ∈ ns → (∀ y, y ∈ ns → y ≤ m) → maxL ns = m
  | [a], m, h, _ => by simp at h; exact h.symm
  | a :: b :: r, m, h, hm => by
    unfold maxL
    have h1 : ∀ y, y ∈ b :: r → y ≤ m := fun y hy => hm y (List.mem_cons_of_mem _ hy)
    by_cases hr : m ∈ b :: r
    · rw [maxL_eq hr h1]
      have := hm a (by simp)
      omega
    · have ha : m = a := by
        rcases List.mem_cons.mp h with e | e
        · exact e
        · exact absurd e hr
      subst ha
      obtain ⟨z, hz, hz2⟩ : ∃ z, z ∈ b :: r ∧ ∀ y, y ∈ b :: r → y ≤ z := by
        clear hm h h1 hr
        induction r generalizing b with
        | nil => exact ⟨b, by simp, fun y hy => by simp at hy; omega⟩
        | cons c r ih =>
          obtain ⟨z, hz, hz2⟩ := ih c
          by_cases hb : b ≤ z
          · refine ⟨z, List.mem_cons_of_mem _ hz, fun y hy => ?_⟩
            rcases List.mem_cons.mp hy with e | e
            · omega
            · exact hz2 y e
          · refine ⟨b, by simp, fun y hy => ?_⟩
            rcases List.mem_cons.mp hy with e | e
            · omega
            · have := hz2 y e; omega
      rw [maxL_eq hz hz2]
      have := h1 z hz
      omega
theorem minL_eq : ∀ {ns : List Int} {m : Int}, m ∈ ns → (∀ y, y ∈ ns → m ≤ y) → minL ns = m
  | [a], m, h, _ => by simp at h; exact h.symm
  | a :: b :: r, m, h, hm => by
    unfold minL
    have h1 : ∀ y, y ∈ b :: r → m ≤ y := fun y hy => hm y (List.mem_cons_of_mem _ hy)
    by_cases hr : m ∈ b :: r
    · rw [minL_eq hr h1]
      have := hm a (by simp)
      omega
    · have ha : m = a := by
        rcases List.mem_cons.mp h with e | e
        · exact e
        · exact absurd e hr
      subst ha
      obtain ⟨z, hz, hz2⟩ : ∃ z, z ∈ b :: r ∧ ∀ y, y ∈ b :: r → z ≤ y := by
        clear hm h h1 hr
        induction r generalizing b with
        | nil => exact ⟨b, by simp, fun y hy => by simp at hy; omega⟩
        | cons c r ih =>
          obtain ⟨z, hz, hz2⟩ := ih c
          by_cases hb : z ≤ b
          · refine ⟨z, List.mem_cons_of_mem _ hz, fun y hy => ?_⟩
            rcases List.mem_cons.mp hy with e | e
            · omega
            · exact hz2 y e
          · refine ⟨b, by simp, fun y hy => ?_⟩
            rcases List.mem_cons.mp hy with e | e
            · omega
            · have := hz2 y e; omega
      rw [minL_eq hz hz2]
      have := h1 z hz
      omega
theorem ok_maxL : CaOk C (rMax C.K) gMaxL := ok_onInts fun F H σ env Q a ns s I hs hg k => by
  split at hg
  · cases hg
  · rename_i hn
    cases hg
    refine ⟨a, ns, rfl, hs, List.length_pos_iff.mpr hn, fun m h1 h2 => ?_⟩
    rw [← maxL_eq h1 h2]
    exact k _ F H I (.refl _) resInt
theorem ok_minL : CaOk C (rMin C.K) gMinL := ok_onInts fun F H σ env Q a ns s I hs hg k => by
  split at hg
  · cases hg
  · rename_i hn
    cases hg
    refine ⟨a, ns, rfl, hs, List.length_pos_iff.mpr hn, fun m h1 h2 => ?_⟩
    rw [← minL_eq h1 h2]
    exact k _ F H I (.refl _) resInt
theorem ok_all : CaOk C (rAll C.K) gAll := ok_onBools fun F H σ env Q a ns s I hs hg k => by
  cases hg
  exact ⟨a, ns, rfl, hs, k _ F H I (.refl _) resBl⟩
theorem ok_any : CaOk C (rAny C.K) gAny := ok_onBools fun F H σ env Q a ns s I hs hg k => by
  cases hg
  exact ⟨a, ns, rfl, hs, k _ F H I (.refl _) resBl⟩
theorem ca_sum (ft : Fit X C) (hc : X.calm = true) : CallR X (.builtin "sum") (rSum C.K) := by rw [← ft.k]; exact cr_sum hc
theorem ca_maxL (ft : Fit X C) (hc : X.calm = true) : CallR X (.builtin "max") (rMax C.K) := by rw [← ft.k]; exact cr_max hc
theorem ca_minL (ft : Fit X C) (hc : X.calm = true) : CallR X (.builtin "min") (rMin C.K) := by rw [← ft.k]; exact cr_min hc
theorem ca_all (ft : Fit X C) (hc : X.calm = true) : CallR X (.builtin "all") (rAll C.K) := by rw [← ft.k]; exact cr_all hc
theorem ca_any (ft : Fit X C) (hc : X.calm = true) : CallR X (.builtin "any") (rAny C.K) := by rw [← ft.k]; exact cr_any hc
def rListA (K : PySem.W.Frag) : List V → Hp → VK → Prop := fun xs H Q => ∃ p ys, xs = [.ref p] ∧ (SqL K H p ys ∨ SqT K H p ys) ∧ ∀ l, H l = none → Q (.ref l) (upd H l (.lst ys))
theorem ca_list (ft : Fit X C) : CallR X (.type "list") (rListA C.K) := by rw [← ft.k]; exact call_list_of
theorem ok_list : CaOk C (rListA C.K) gList := by
  intro F H σ env vs ds s Q I r hg k
  unfold gList at hg
  split at hg
  · obtain ⟨x, rfl, rx⟩ := rep1 r
    cases hg
    obtain ⟨p, xs, rfl, h1, h2⟩ := rx.lst
    refine ⟨p, xs, rfl, .inl (.inl (.inl (I.fh _ _ h1))), fun l nl => ?_⟩
    obtain ⟨I2, fr⟩ := I.newList nl h2
    exact k _ _ _ I2 (.refl _) ⟨l, rfl, fr⟩
  · obtain ⟨x, rfl, rx⟩ := rep1 r
    cases hg
    obtain ⟨p, xs, rfl, h1, h2⟩ := rx.tup
    refine ⟨p, xs, rfl, .inr (sameT I.fh h1), fun l nl => ?_⟩
    obtain ⟨I2, fr⟩ := I.newList nl h2
    exact k _ _ _ I2 (.refl _) ⟨l, rfl, fr⟩
  · obtain ⟨x, rfl, rx⟩ := rep1 r
    cases hg
    obtain ⟨p, rfl, h1⟩ := rx.scr
    refine ⟨p, _, rfl, .inl (I.fh.seq h1), fun l nl => ?_⟩
    obtain ⟨I2, fr⟩ := I.newList nl (RepL.ints (K := C.K) (mg := C.mg) (H := F))
    exact k _ _ _ I2 (.refl _) ⟨l, rfl, fr⟩
  · cases hg
def rTupleA (K : PySem.W.Frag) : List V → Hp → VK → Prop := fun xs H Q => ∃ p ys, xs = [.ref p] ∧ ((SqL K H p ys ∧ ∀ l, H l = none → Q (.ref l) (upd H l (.tup ys))) ∨ (SqT K H p ys ∧ Q (.ref p) H))
theorem ca_tuple (ft : Fit X C) : CallR X (.type "tuple") (rTupleA C.K) := by rw [← ft.k]; exact call_tuple_of
theorem ok_tuple : CaOk C (rTupleA C.K) gTuple := by
  intro F H σ env vs ds s Q I r hg k
  unfold gTuple at hg
  split at hg
  · obtain ⟨x, rfl, rx⟩ := rep1 r
    cases hg
    obtain ⟨p, xs, rfl, h1, h2⟩ := rx.lst
    refine ⟨p, xs, rfl, .inl ⟨.inl (.inl (I.fh _ _ h1)), fun l nl => ?_⟩⟩
    have sF := I.same (o := .tup xs) nl
    exact k _ _ _ (I.alloc nl) sF (Rep.ofTup upd_same (h2.mono sF))
  · obtain ⟨x, rfl, rx⟩ := rep1 r
    cases hg
    obtain ⟨p, xs, e, h1, h2⟩ := rx.tup
    subst e
    exact ⟨p, xs, rfl, .inr ⟨sameT I.fh h1, k _ F H I (.refl _) rx⟩⟩
  · cases hg
theorem ok_intC : CaOk C (fun xs H Q => (∃ i, xs = [.int i] ∧ Q (.int i) H) ∨ ∃ k, xs = [.bl k] ∧ Q (.int (if k then 1 else 0)) H) gIntC := by
  intro F H σ env vs ds s Q I r hg k
  unfold gIntC at hg
  split at hg
  · obtain ⟨x, rfl, rx⟩ := rep1 r
    cases hg
    rw [rx.int]
    exact .inl ⟨_, rfl, k _ F H I (.refl _) resInt⟩
  · obtain ⟨x, rfl, rx⟩ := rep1 r
    cases hg
    rw [rx.bl]
    exact .inr ⟨_, rfl, k _ F H I (.refl _) resInt⟩
  · cases hg
theorem rep_ty {d : D} {v : V} {a : String} (r : Rep K mg H d v) (h : tyN d = some a) : TyX K H v (.type a) := by
  cases d <;> first | (cases h; done) | skip
  · cases h; rw [r.non]; exact .base .non
  · cases h; rw [r.bl]; exact .base (.bl _)
  · cases h; rw [r.int]; exact .base (.int _)
  · cases h; rw [r.str]; exact .base (.str _)
  · cases h; obtain ⟨p, xs, rfl, h1, _⟩ := r.lst; exact .base (.lst h1)
  · cases h
    obtain ⟨p, xs, rfl, h1, _⟩ := r.tup
    rcases h1 with (h1 | ⟨o, h1⟩) | ⟨o, its, n, h1, h2, _⟩
    · exact .base (.tup h1)
    · exact .fTuple h1
    · exact .kTuple h1 h2
  · cases h
    obtain ⟨p, rfl, h1⟩ := r.scr
    rcases h1 with (h1 | ⟨o, h1⟩) | ⟨o, its, n, h1, h2, _⟩
    · exact .base (.lst h1)
    · exact .base (.frz h1)
    · exact .kList h1 h2
  · cases h; unfold Rep at r; obtain ⟨p, xs, rfl, h1, _⟩ := r; exact .base (.dK h1)
  · cases h; unfold Rep at r; obtain ⟨p, xs, rfl, h1, _⟩ := r; exact .base (.dT h1)
theorem isi_of {d : D} {v : V} {t : String} {b : Bool} (r : Rep K mg H d v) (h : isiB d t = some b) : ∃ u, TyX K H v u ∧ PySem.W.kitOne K u (.type t) = some b := by
  unfold isiB at h
  cases e : tyN d with
  | none => rw [e] at h; cases h
  | some a => rw [e] at h; exact ⟨_, rep_ty r e, kit_ty h⟩
theorem ok_isi : CaOk C (rIsi C.K) gIsi := by
  intro F H σ env vs ds s Q I r hg k
  unfold gIsi at hg
  split at hg
  · rename_i d t
    cases e : isiB d t with
    | none => rw [e] at hg; cases hg
    | some b =>
      rw [e] at hg
      cases hg
      obtain ⟨x, y, rfl, rx, ry⟩ := rep2 r
      unfold Rep at ry
      subst ry
      obtain ⟨u, h1, h2⟩ := isi_of (rx.mono I.fh) e
      exact ⟨x, .ty t, u, .type t, b, rfl, .ty t, h1, h2, k _ F H I (.refl _) resBl⟩
  · cases hg
theorem ca_isi (ft : Fit X C) : CallR X (.builtin "isinstance") (rIsi C.K) := by rw [← ft.k]; exact call_isi
theorem qe_ty {x : Str} {n : String} {pos : Pos} (hg : Gl X x) (hm : X.mg x = none) (hv : bootBuiltins x = some (.type n)) (hn : x ≠ "__name__" := by decide) (hd : (x == ("__debug__" : Str)) = false := by decide) : PE X (.Name x pos) (tD C (conD (.ty n))) :=
  qe_con (v := .ty n) (fun F => by unfold Rep; rfl) (pe_bltn (v := .ty n) hg hm hv rfl hn hd)
end
end Dd

namespace Dd
open PySem PySem.Spec PyProof.Rows L2
/-! ### what a for walks -/
theorem PI.or {X : Cx} {g e : Expr} {w w' : TI} (h : PI X g e w) (h' : PI X g e w') : PI X g e (fun σ H R => w σ H R ∨ w' σ H R) := ⟨fun pins s σ H R I q => q.elim (h.run pins s σ H R I) (h'.run pins s σ H R I)⟩
def signs (z : Str) : List D := z.cps.toList.map fun c => .str ⟨#[c]⟩
def iterOf : D → Option (List D)
  | .lst ds => some ds
  | .tup ds => some ds
  | .scr ns => some (ns.map .int)
  | .str z => some (signs z)
  | _ => none
def iterE (f : DE) : DI := fun env => (f env).bind fun p => match iterOf p.1.d with
  | some ds => .ok (ds, p.2)
  | none => .no
def rangeL (lo : Int) (n : Nat) : List D := (List.range n).map fun (k : Nat) => .int (lo + (k : Int))
def gR1 : List D → Option (List D)
  | [.int j] => if -(2 ^ 62) ≤ j ∧ j < 2 ^ 62 then some (rangeL 0 j.toNat) else none
  | _ => none
def gR2 : List D → Option (List D)
  | [.int i, .int j] => if -(2 ^ 62) ≤ i ∧ i < 2 ^ 62 ∧ -(2 ^ 62) ≤ j ∧ j < 2 ^ 62 then some (rangeL i (j - i).toNat) else none
  | _ => none
def gZip : List D → Option (List D)
  | [.lst a, .lst b] => some ((a.zip b).map fun p => .tup [p.1, p.2])
  | _ => none
def gEnum : List D → Option (List D)
  | [.lst a] => some (a.zipIdx.map fun p => .tup [.int (p.2 : Nat), p.1])
  | _ => none
def gRev : List D → Option (List D)
  | [.lst a] => some a.reverse
  | _ => none
def iterG (g : List D → Option (List D)) (fs : List DE) : DI := fun env => (argsD fs env).bind fun p => match g p.1 with
  | some ds => .ok (ds, p.2)
  | none => .no
section
variable {X : Cx} {C : Cd} {tg e : Expr} {es : List Expr} {f : DE} {fs : List DE} {p pos tpos : Pos}
theorem it_list {F1 : Hp} {a : Addr} {xs : List V} {ds : List D} (h : SqL C.K F1 a xs) (r : RepL C.K C.mg F1 ds xs) : ItOk C (Itl C.K a) ds F1 := by
  intro F H σ env i s I
  have hx : SqL C.K H a xs := (s.trans I.fh).seq h
  refine ⟨fun d hd => ?_, fun e => ?_⟩
  · obtain ⟨x, hx1, rx⟩ := r.get hd
    refine ⟨⟨xs, x, hx, hx1⟩, fun y H' ⟨e1, e2⟩ => ?_⟩
    subst e1
    have := e2 xs hx
    rw [hx1] at this
    cases this
    exact ⟨F, .refl I.fh, rx.mono s⟩
  · exact ⟨xs, hx, by rw [r.len, e]; exact Nat.le_refl _⟩
theorem it_tup {F1 : Hp} {a : Addr} {xs : List V} {ds : List D} (h : SqT C.K F1 a xs) (r : RepL C.K C.mg F1 ds xs) : ItOk C (Itt C.K a) ds F1 := by
  intro F H σ env i s I
  have hx : SqT C.K H a xs := sameT (s.trans I.fh) h
  refine ⟨fun d hd => ?_, fun e => ?_⟩
  · obtain ⟨x, hx1, rx⟩ := r.get hd
    refine ⟨⟨xs, x, hx, hx1⟩, fun y H' ⟨e1, e2⟩ => ?_⟩
    subst e1
    have := e2 xs hx
    rw [hx1] at this
    cases this
    exact ⟨F, .refl I.fh, rx.mono s⟩
  · exact ⟨xs, hx, by rw [r.len, e]; exact Nat.le_refl _⟩
theorem it_str {F1 : Hp} {z : Str} : ItOk C (Its z) (signs z) F1 := by
  intro F H σ env i s I
  unfold signs
  refine ⟨fun d hd => ?_, fun e => ?_⟩
  · rw [List.getElem?_map] at hd
    cases ec : z.cps.toList[i]? with
    | none => rw [ec] at hd; cases hd
    | some c =>
      rw [ec] at hd
      cases hd
      have hi : i < z.cps.size := by
        have := (List.getElem?_eq_some_iff.mp ec).1
        simpa using this
      refine ⟨hi, fun y H' ⟨e1, c', h1, h2⟩ => ?_⟩
      subst e1 h2
      have : z.cps.toList[i]? = some c' := by rw [← h1]; simp
      rw [ec] at this
      cases this
      exact ⟨F, .refl I.fh, rStr⟩
  · rw [List.length_map] at e
    show z.cps.size ≤ i
    rw [e]
    simp
theorem it_range {F1 : Hp} {lo : Int} {n : Nat} : ItOk C (Itr lo n) (rangeL lo n) F1 := by
  intro F H σ env i s I
  unfold rangeL
  refine ⟨fun d hd => ?_, fun e => ?_⟩
  · rw [List.getElem?_map] at hd
    cases ec : (List.range n)[i]? with
    | none => rw [ec] at hd; cases hd
    | some c =>
      rw [ec] at hd
      cases hd
      have hi : i < n := by
        have := (List.getElem?_eq_some_iff.mp ec).1
        simpa using this
      rw [List.getElem?_range hi] at ec
      cases ec
      refine ⟨hi, fun y H' ⟨e1, h2⟩ => ?_⟩
      subst e1 h2
      exact ⟨F, .refl I.fh, rInt⟩
  · simp at e
    show n ≤ i
    omega
theorem it_zip {F1 : Hp} {a b : Addr} {xs ys : List V} {ds es : List D} (h : SqL C.K F1 a xs) (r : RepL C.K C.mg F1 ds xs) (h' : SqL C.K F1 b ys) (r' : RepL C.K C.mg F1 es ys) : ItOk C (Itz C.K a b) ((ds.zip es).map fun p => .tup [p.1, p.2]) F1 := by
  intro F H σ env i s I
  have hx : SqL C.K H a xs := (s.trans I.fh).seq h
  have hy : SqL C.K H b ys := (s.trans I.fh).seq h'
  have w := L2.walk_zip (K := C.K) (a := a) (b := b) (xs := xs) (ys := ys) (n := min xs.length ys.length) rfl
  refine ⟨fun d hd => ?_, fun e => ?_⟩
  · rw [List.getElem?_map] at hd
    cases ec : (ds.zip es)[i]? with
    | none => rw [ec] at hd; cases hd
    | some c =>
      rw [ec] at hd
      cases hd
      obtain ⟨h1, h2⟩ := List.getElem?_zip_eq_some.mp ec
      obtain ⟨x, hx1, rx⟩ := r.get h1
      obtain ⟨y, hy1, ry⟩ := r'.get h2
      have hi : i < min xs.length ys.length := by
        have := (List.getElem?_eq_some_iff.mp hx1).1
        have := (List.getElem?_eq_some_iff.mp hy1).1
        omega
      refine ⟨w.goes i H hi ⟨hx, hy⟩, fun v H' yl => ?_⟩
      obtain ⟨T, x', y', e1, e2, e3, e4, e5⟩ := w.yields i H v H' hi ⟨hx, hy⟩ yl
      replace e4 : xs[i]? = some x' := e4
      replace e5 : ys[i]? = some y' := e5
      rw [hx1] at e4
      rw [hy1] at e5
      cases e4
      cases e5
      subst e1 e3
      have sF := I.same (o := .tup [x, y]) e2
      exact ⟨_, I.extAlloc e2, Rep.ofTup upd_same (repCons (rx.mono (s.trans sF)) (repCons (ry.mono (s.trans sF)) repNil))⟩
  · rw [List.length_map, List.length_zip, ← r.len, ← r'.len] at e
    rw [e]
    exact w.stops H ⟨hx, hy⟩
theorem it_enum {F1 : Hp} {a : Addr} {xs : List V} {ds : List D} (h : SqL C.K F1 a xs) (r : RepL C.K C.mg F1 ds xs) : ItOk C (Ite C.K a) (ds.zipIdx.map fun p => .tup [.int (p.2 : Nat), p.1]) F1 := by
  intro F H σ env i s I
  have hx : SqL C.K H a xs := (s.trans I.fh).seq h
  have w := walk_enum (K := C.K) (a := a) (xs := xs)
  refine ⟨fun d hd => ?_, fun e => ?_⟩
  · rw [List.getElem?_map, List.getElem?_zipIdx] at hd
    cases ec : ds[i]? with
    | none => rw [ec] at hd; cases hd
    | some c =>
      rw [ec] at hd
      simp at hd
      subst hd
      obtain ⟨x, hx1, rx⟩ := r.get ec
      have hi : i < xs.length := (List.getElem?_eq_some_iff.mp hx1).1
      refine ⟨w.goes i H hi hx, fun v H' yl => ?_⟩
      obtain ⟨T, x', y', e1, e2, e3, e4, e5⟩ := w.yields i H v H' hi hx yl
      replace e5 : xs[i]? = some y' := e5
      rw [hx1] at e5
      cases e4
      cases e5
      subst e1 e3
      have sF := I.same (o := .tup [.int (i : Nat), x]) e2
      exact ⟨_, I.extAlloc e2, Rep.ofTup upd_same (repCons rInt (repCons (rx.mono (s.trans sF)) repNil))⟩
  · rw [List.length_map, List.length_zipIdx, ← r.len] at e
    rw [e]
    exact w.stops H hx
theorem it_rev {F1 : Hp} {a : Addr} {xs : List V} {ds : List D} (h : SqL C.K F1 a xs) (r : RepL C.K C.mg F1 ds xs) : ItOk C (Itv C.K a xs.length) ds.reverse F1 := by
  intro F H σ env i s I
  have hx : SqL C.K H a xs := (s.trans I.fh).seq h
  have w := walk_rev (K := C.K) (a := a) (xs := xs)
  refine ⟨fun d hd => ?_, fun e => ?_⟩
  · obtain ⟨x, hx1, rx⟩ := r.rev.get hd
    have hi : i < xs.length := by
      have := (List.getElem?_eq_some_iff.mp hx1).1
      simpa using this
    refine ⟨w.goes i H hi hx, fun v H' yl => ?_⟩
    obtain ⟨e1, e2⟩ := w.yields i H v H' hi hx yl
    subst e1
    rw [List.getElem?_reverse hi, e2] at hx1
    cases hx1
    exact ⟨F, .refl I.fh, rx.mono s⟩
  · rw [List.length_reverse, ← r.len] at e
    rw [e]
    exact w.stops H hx
theorem qi_seq (ft : Fit X C) (h : PE X e (tD C f)) : PI X tg e (tDI C (iterE f)) := by
  have q := PI.or (pi_list (tg := tg) (qz h)) (PI.or (pi_tup (tg := tg) (qz h)) (pi_str (tg := tg) (qz h)))
  rw [ft.k] at q
  refine PI.weak q fun σ H RR ⟨F, env, I, h⟩ => ?_
  unfold iterE at h
  cases ef : f env with
  | no => rw [ef] at h; exact h.elim
  | er c fs z => rw [ef] at h; exact .inl ⟨F, env, I, by rw [ef]; exact h⟩
  | ok p =>
    rw [ef] at h
    simp only [R.bind_ok] at h
    cases ed : p.1.d with
    | lst ds =>
      simp only [ed, iterOf] at h
      refine .inl ⟨F, env, I, by
        rw [ef]
        intro F' H' I' s' x rx
        rw [ed] at rx
        obtain ⟨a, xs, rfl, h1, h2⟩ := rx.lst
        exact ⟨a, rfl, ⟨xs, .inl (.inl (I'.fh _ _ h1))⟩, h F' H' I' s' _ (it_list (.inl (.inl h1)) h2)⟩⟩
    | scr ns =>
      simp only [ed, iterOf] at h
      refine .inl ⟨F, env, I, by
        rw [ef]
        intro F' H' I' s' x rx
        rw [ed] at rx
        obtain ⟨a, rfl, h1⟩ := rx.scr
        exact ⟨a, rfl, ⟨_, I'.fh.seq h1⟩, h F' H' I' s' _ (it_list h1 RepL.ints)⟩⟩
    | tup ds =>
      simp only [ed, iterOf] at h
      refine .inr (.inl ⟨F, env, I, by
        rw [ef]
        intro F' H' I' s' x rx
        rw [ed] at rx
        obtain ⟨a, xs, rfl, h1, h2⟩ := rx.tup
        exact ⟨a, rfl, ⟨xs, sameT I'.fh h1⟩, h F' H' I' s' _ (it_tup h1 h2)⟩⟩)
    | str z =>
      simp only [ed, iterOf] at h
      refine .inr (.inr ⟨F, env, I, by
        rw [ef]
        intro F' H' I' s' x rx
        rw [ed] at rx
        exact ⟨z, rx.str, h F' H' I' s' _ it_str⟩⟩)
    | _ => simp only [ed, iterOf] at h; exact h.elim
theorem t_iter {g : List D → Option (List D)} {σ : L2.St} {H : Hp} {Q : List V → Hp → Prop} {RR : It → Hp → Prop} (h : tDI C (iterG g fs) σ H RR)
    (k : ∀ F H env vs ds zs, In C F H σ env → RepL C.K C.mg F ds vs → g ds = some zs → (∀ J, ItOk C J zs F → RR J H) → Q vs H) : tDA C fs σ H Q := by
  obtain ⟨F, env, I, h⟩ := h
  refine ⟨F, env, I, (Fin.bnd h).imp fun ds e F1 H1 I1 s1 h1 vs rv => ?_⟩
  cases eg : g ds with
  | none => simp only [eg] at h1; exact h1.elim
  | some zs => simp only [eg] at h1; exact k F1 H1 e vs ds zs I1 rv eg fun J ok => h1 F1 H1 I1 (.refl _) J ok
theorem qi_range1 {a : Expr} (hg : Gl X "range") (hm : X.mg "range" = none) (ha : PA X [a] (tDA C fs)) (hs : starEach [a] X.env = [(false, eval a X.env)] := by rfl) : PI X tg (.Call (.Name "range" p) [a] [] pos) (tDI C (iterG gR1 fs)) :=
  PI.weak (pi_range1 hg hm ha hs) fun σ H RR h => t_iter h fun F H env vs ds zs I rv eg k => by
    unfold gR1 at eg
    split at eg
    · split at eg
      · rename_i hz
        cases eg
        obtain ⟨x, rfl, rx⟩ := rep1 rv
        rw [rx.int]
        exact ⟨_, rfl, hz.1, hz.2, k _ it_range⟩
      · cases eg
    · cases eg
theorem qi_range2 {a b : Expr} (hg : Gl X "range") (hm : X.mg "range" = none) (ha : PA X [a, b] (tDA C fs)) (hs : starEach [a, b] X.env = [(false, eval a X.env), (false, eval b X.env)] := by rfl) (hs2 : starEach [b] X.env = [(false, eval b X.env)] := by rfl) : PI X tg (.Call (.Name "range" p) [a, b] [] pos) (tDI C (iterG gR2 fs)) :=
  PI.weak (pi_range2 hg hm ha hs hs2) fun σ H RR h => t_iter h fun F H env vs ds zs I rv eg k => by
    unfold gR2 at eg
    split at eg
    · split at eg
      · rename_i hz
        cases eg
        obtain ⟨x, y, rfl, rx, ry⟩ := rep2 rv
        rw [rx.int, ry.int]
        exact ⟨_, _, rfl, hz, k _ it_range⟩
      · cases eg
    · cases eg
theorem qi_zip {a b : Expr} {elts : List Expr} {kk : Nat} (ft : Fit X C) (hg : Gl X "zip") (hm : X.mg "zip" = none) (ha : PA X [a, b] (tDA C fs)) (hs : starEach [a, b] X.env = (false, eval a X.env) :: starEach [b] X.env := by rfl) (hpl : (backTo pos (starEach [b] X.env)).any (·.1) = false := by rfl) : PI X (.Tuple elts kk tpos) (.Call (.Name "zip" p) [a, b] [] pos) (tDI C (iterG gZip fs)) := by
  have q := pi_zip (tpos := tpos) (elts := elts) (kk := kk) (p := p) hg hm ha hs hpl
  rw [ft.k] at q
  exact PI.weak q fun σ H RR h => t_iter h fun F H env vs ds zs I rv eg k => by
    unfold gZip at eg
    split at eg
    · cases eg
      obtain ⟨x, y, rfl, rx, ry⟩ := rep2 rv
      obtain ⟨a, xs, rfl, h1, h2⟩ := rx.lst
      obtain ⟨b, ys, rfl, h3, h4⟩ := ry.lst
      exact ⟨a, b, xs, ys, rfl, .inl (.inl (I.fh _ _ h1)), .inl (.inl (I.fh _ _ h3)), k _ (it_zip (.inl (.inl h1)) h2 (.inl (.inl h3)) h4)⟩
    · cases eg
theorem qi_enum {a : Expr} {elts : List Expr} {kk : Nat} (ft : Fit X C) (hg : Gl X "enumerate") (hm : X.mg "enumerate" = none) (ha : PA X [a] (tDA C fs)) (hs : starEach [a] X.env = [(false, eval a X.env)] := by rfl) : PI X (.Tuple elts kk tpos) (.Call (.Name "enumerate" p) [a] [] pos) (tDI C (iterG gEnum fs)) := by
  have q := pi_enum (tpos := tpos) (elts := elts) (kk := kk) (p := p) (pos := pos) hg hm ha hs
  rw [ft.k] at q
  exact PI.weak q fun σ H RR h => t_iter h fun F H env vs ds zs I rv eg k => by
    unfold gEnum at eg
    split at eg
    · cases eg
      obtain ⟨x, rfl, rx⟩ := rep1 rv
      obtain ⟨a, xs, rfl, h1, h2⟩ := rx.lst
      exact ⟨a, xs, rfl, .inl (.inl (I.fh _ _ h1)), k _ (it_enum (.inl (.inl h1)) h2)⟩
    · cases eg
theorem qi_rev {a : Expr} (ft : Fit X C) (hg : Gl X "reversed") (hm : X.mg "reversed" = none) (ha : PA X [a] (tDA C fs)) (hs : starEach [a] X.env = [(false, eval a X.env)] := by rfl) : PI X tg (.Call (.Name "reversed" p) [a] [] pos) (tDI C (iterG gRev fs)) := by
  have q := pi_reversed (tg := tg) (p := p) (pos := pos) hg hm ha hs
  rw [ft.k] at q
  exact PI.weak q fun σ H RR h => t_iter h fun F H env vs ds zs I rv eg k => by
    unfold gRev at eg
    split at eg
    · cases eg
      obtain ⟨x, rfl, rx⟩ := rep1 rv
      obtain ⟨a, xs, rfl, h1, h2⟩ := rx.lst
      exact ⟨a, xs, rfl, .inl (.inl (I.fh _ _ h1)), k _ (it_rev (.inl (.inl h1)) h2)⟩
    · cases eg
end
/-! ### comprehensions -/
def wipeE (env : DEnv) : List Nat → DEnv
  | [] => env
  | v :: vs => (wipeE env vs).set v none
def bind0 {α β : Type} (r : R DEnv (α × DEnv)) (k : α × DEnv → R DEnv β) : R DEnv β := match r with
  | .ok p => k p
  | _ => .no
@[simp] theorem bind0_ok {α β : Type} (a : α × DEnv) (k : α × DEnv → R DEnv β) : bind0 (.ok a) k = k a := rfl
/-- what is owned is lent; it comes back -/
def lend : Option Sl → Option Sl
  | some (.own d) => some (.bor d)
  | o => o
def back : Option Sl → Option Sl → Option Sl
  | some (.own _), some (.bor d) => some (.own d)
  | some (.bor _), some (.bor d) => some (.bor d)
  | _, some (.frz d) => some (.frz d)
  | _, _ => none
def lendE (env : DEnv) : DEnv := env.map lend
def backE (env e : DEnv) : DEnv := List.zipWith back env e
def frzE (env : DEnv) : List Nat → DEnv
  | [] => env
  | z :: zs => match (frzE env zs)[z]? with
    | some (some (.own d)) => (frzE env zs).set z (some (.frz d))
    | _ => frzE env zs
def lcD (g : DG) (tt : DT) (te : DE) (vs : List Nat) : List D → List D → DEnv → R DEnv (List D × DEnv)
  | [], acc, env => .ok (acc, env)
  | d :: ds, acc, env => match g d (lendE env) with
    | none => .no
    | some e => bind0 (tt e) fun p => match p.1 with
      | true => bind0 (te p.2) fun q => if acc.length < lim then lcD g tt te vs ds (acc ++ [q.1.d]) (backE env (wipeE q.2 vs)) else .no
      | false => lcD g tt te vs ds acc (backE env (wipeE p.2 vs))
def compD (fi : DI) (g : DG) (tt : DT) (te : DE) (vs zs : List Nat) : DE := fun env => (fi env).bind fun p => bind0 (lcD g tt te vs p.1 [] (wipeE (frzE p.2 zs) vs)) fun q => .ok (.own (.lst q.1), q.2)
def yesT : DT := fun env => .ok (true, env)
section
variable {X : Cx} {C : Cd} {F H : Hp} {σ : L2.St} {env : DEnv}
theorem In.wipe (I : In C F H σ env) : ∀ vs : List Nat, In C F H (L2.wipe σ vs) (wipeE env vs)
  | [] => I
  | v :: vs => (In.wipe I vs).drop v Option.none
theorem wipe_at : ∀ (τ : L2.St) (vs : List Nat) (i : Nat), (L2.wipe τ vs)[i]? = if i ∈ vs then (τ[i]?).map (fun _ => none) else τ[i]? := by
    intro τ vs i
    induction vs with
    | nil => rfl
    | cons v vs ih =>
      show ((L2.wipe τ vs).set v none)[i]? = _
      by_cases e : v = i
      · subst e
        rw [List.getElem?_set_self', ih]
        simp
        split <;> cases τ[v]? <;> rfl
      · rw [List.getElem?_set_ne e, ih]
        have : (i ∈ v :: vs) ↔ i ∈ vs := by simp; exact fun z => absurd z.symm e
        simp only [this]
theorem wipe_wipe (τ : L2.St) (vs : List Nat) : L2.wipe (L2.wipe τ vs) vs = L2.wipe τ vs := by
  apply List.ext_getElem?
  intro i
  rw [wipe_at, wipe_at]
  split
  · cases τ[i]? <;> rfl
  · rfl
theorem wipe_agree {σ σ' : L2.St} {ts : List Nat} (ag : Agree ts σ σ') : ∀ vs : List Nat, (∀ i ∈ ts, i ∈ vs) → L2.wipe σ' vs = L2.wipe σ vs := by
  have at_ : ∀ (τ : L2.St) (vs : List Nat) (i : Nat), (L2.wipe τ vs)[i]? = if i ∈ vs then (τ[i]?).map (fun _ => none) else τ[i]? := by
    intro τ vs i
    induction vs with
    | nil => rfl
    | cons v vs ih =>
      show ((L2.wipe τ vs).set v none)[i]? = _
      by_cases e : v = i
      · subst e
        rw [List.getElem?_set_self', ih]
        simp
        split <;> cases τ[v]? <;> rfl
      · rw [List.getElem?_set_ne e, ih]
        have : (i ∈ v :: vs) ↔ i ∈ vs := by simp; exact fun z => absurd z.symm e
        simp only [this]
  intro vs hv
  apply List.ext_getElem?
  intro i
  rw [at_, at_]
  split
  · rename_i hi
    by_cases hl : i < σ.length
    · rw [List.getElem?_eq_getElem hl, List.getElem?_eq_getElem (by rw [ag.1]; exact hl)]
      rfl
    · have := ag.1
      rw [List.getElem?_eq_none (by omega), List.getElem?_eq_none (by omega)]
  · rename_i hi
    exact ag.2 i fun z => hi (hv i z)
theorem In.unwipe {vs : List Nat} {e : DEnv} (I : In C F H (L2.wipe σ vs) e) : In C F H σ e := by
  refine ⟨I.f0, I.fh, I.fr, I.nf, ?_, fun i s h => ?_, fun i j s t p hi hj ms mt ai aj => ?_, I.bs⟩
  · rw [← I.len, wipe_length]
  · obtain ⟨v, hv, r⟩ := I.sl i s h
    exact ⟨v, (wipe_some hv).1, r⟩
  · obtain ⟨v, hv, r⟩ := I.sl i s hi
    obtain ⟨w, hw, r'⟩ := I.sl j t hj
    have e1 := (wipe_some hv).1
    have e2 := (wipe_some hw).1
    rw [ai] at e1
    rw [aj] at e2
    cases e1
    cases e2
    exact I.ds i j s t p hi hj ms mt hv hw
theorem In.frzAll (I : In C F H σ env) : ∀ zs : List Nat, ∃ F', In C F' H σ (frzE env zs) ∧ Same F F'
  | [] => ⟨F, I, .refl _⟩
  | z :: zs => by
    obtain ⟨F', I', s'⟩ := In.frzAll I zs
    unfold frzE
    split
    · rename_i d hd
      obtain ⟨v, F2, hv, I2, s2, _⟩ := I'.frzSlot hd
      exact ⟨F2, I2, s'.trans s2⟩
    · exact ⟨F', I', s'⟩
/-- the addresses of what may change -/
def MutA (e : DEnv) (σ : L2.St) : Addr → Prop := fun p => ∃ (i : Nat) (s : Sl), e[i]? = some (some s) ∧ s.mut = true ∧ σ[i]? = some (some (.ref p))
theorem lend_get {i : Nat} {s : Sl} (h : (lendE env)[i]? = some (some s)) : ∃ t, env[i]? = some (some t) ∧ lend (some t) = some s := by
  unfold lendE at h
  rw [List.getElem?_map] at h
  cases e : env[i]? with
  | none => rw [e] at h; cases h
  | some o =>
    rw [e] at h
    cases o with
    | none => cases h
    | some t => exact ⟨t, rfl, Option.some.inj h⟩
theorem In.lendTo (I : In C F H σ env) : In ⟨C.K, C.mg, F, H, MutA env σ, W0, C.ex, C.exc, false⟩ F H σ (lendE env) := by
  refine ⟨.refl _, I.fh, fun a o h _ => h, fun a o h => .inl h, ?_, fun i s h => ?_, fun i j s t p hi hj ms mt ai aj => ?_, fun p ⟨i, s, h1, h2, h3⟩ => ?_⟩
  · unfold lendE; rw [List.length_map]; exact I.len
  · obtain ⟨t, ht, hl⟩ := lend_get h
    obtain ⟨v, hv, r⟩ := I.sl i t ht
    refine ⟨v, hv, ?_⟩
    cases t with
    | frz d => cases hl; exact r
    | exn c => cases hl; exact r
    | own d =>
      cases hl
      obtain ⟨p, rfl, h1, h2, h3⟩ := r
      exact ⟨p, rfl, h1, ⟨i, _, ht, rfl, hv⟩, h3⟩
    | bor d =>
      cases hl
      obtain ⟨p, rfl, h1, h2, h3⟩ := r
      exact ⟨p, rfl, h1, ⟨i, _, ht, rfl, hv⟩, h3⟩
  · obtain ⟨s', hs, hl⟩ := lend_get hi
    obtain ⟨t', ht, hl'⟩ := lend_get hj
    have m1 : s'.mut = true := by cases s' <;> first | rfl | (cases hl; exact ms)
    have m2 : t'.mut = true := by cases t' <;> first | rfl | (cases hl'; exact mt)
    exact I.ds i j s' t' p hs ht m1 m2 ai aj
  · obtain ⟨v, hv, r⟩ := I.sl i s h1
    rw [h3] at hv
    cases hv
    cases s with
    | frz d => cases h2
    | exn c => cases h2
    | own d => obtain ⟨q, e, _, _, h3⟩ := r; cases e; obtain ⟨o, ho⟩ := h3.some; rw [ho]; exact fun z => nomatch z
    | bor d => obtain ⟨q, e, _, _, h3⟩ := r; cases e; obtain ⟨o, ho⟩ := h3.some; rw [ho]; exact fun z => nomatch z
theorem back_get {e : DEnv} {i : Nat} {s : Sl} (h : (backE env e)[i]? = some (some s)) : ∃ o z, env[i]? = some o ∧ e[i]? = some (some z) ∧ back o (some z) = some s := by
  unfold backE at h
  rw [List.getElem?_zipWith] at h
  cases e1 : env[i]? with
  | none => rw [e1] at h; cases h
  | some o =>
    cases e2 : e[i]? with
    | none => rw [e1, e2] at h; cases h
    | some z =>
      rw [e1, e2] at h
      have h' := Option.some.inj h
      cases z with
      | none => cases o with
        | none => cases h'
        | some y => cases y <;> cases h'
      | some z => exact ⟨o, z, rfl, rfl, h'⟩
/-- behind what was lent -/
theorem In.backFrom {F' H' : Hp} {e : DEnv} (I : In C F H σ env) (J : In ⟨C.K, C.mg, F, H, MutA env σ, W0, C.ex, C.exc, false⟩ F' H' σ e) : In C F' H' σ (backE env e) := by
  have nB : ∀ a o, C.H0 a = some o → ¬ C.B a → ¬ MutA env σ a := fun a o h hb ⟨i, s, h1, h2, h3⟩ => by
    obtain ⟨v, hv, r⟩ := I.sl i s h1
    rw [h3] at hv
    cases hv
    cases s with
    | frz d => cases h2
    | exn c => cases h2
    | own d => obtain ⟨q, e, _, h4, _⟩ := r; cases e; rw [h4] at h; cases h
    | bor d => obtain ⟨q, e, _, h4, _⟩ := r; cases e; exact hb h4
  refine ⟨I.f0.trans J.f0, J.fh, fun a o h hb => J.fr a o (I.fr a o h hb) (nB a o h hb), fun a o h => ?_, ?_, fun i s h => ?_, fun i j s t p hi hj ms mt ai aj => ?_, fun p hp z => ?_⟩
  · rcases J.nf a o h with h | h
    · exact I.nf a o h
    · exact .inr (I.none0 h)
  · unfold backE
    rw [List.length_zipWith, ← I.len, ← J.len]
    omega
  · obtain ⟨o, z, h1, h2, h3⟩ := back_get h
    obtain ⟨v, hv, r⟩ := J.sl i z h2
    refine ⟨v, hv, ?_⟩
    cases z with
    | frz d =>
      have : s = .frz d := by cases o with
        | none => cases h3; rfl
        | some y => cases y <;> (cases h3; rfl)
      subst this
      exact r
    | own d => cases o with
      | none => cases h3
      | some y => cases y <;> cases h3
    | exn c => cases o with
      | none => cases h3
      | some y => cases y <;> cases h3
    | bor d =>
      obtain ⟨p, rfl, r1, r2, r3⟩ := r
      cases o with
      | none => cases h3
      | some y =>
        cases y with
        | frz d' => cases h3
        | exn c' => cases h3
        | own d' =>
          cases h3
          obtain ⟨v', hv', q, e, _, q2, _⟩ := I.sl i _ h1
          rw [hv] at hv'
          cases hv'
          cases e
          exact ⟨p, rfl, r1, q2, r3⟩
        | bor d' =>
          cases h3
          obtain ⟨v', hv', q, e, _, q2, _⟩ := I.sl i _ h1
          rw [hv] at hv'
          cases hv'
          cases e
          exact ⟨p, rfl, r1, q2, r3⟩
  · obtain ⟨o, z, h1, h2, h3⟩ := back_get hi
    obtain ⟨o', z', h1', h2', h3'⟩ := back_get hj
    have m1 : z.mut = true := by
      cases z with
      | frz d => cases o with
        | none => cases h3; exact ms
        | some y => cases y <;> (cases h3; exact ms)
      | exn c => cases o with
        | none => cases h3
        | some y => cases y <;> cases h3
      | own d => rfl
      | bor d => rfl
    have m2 : z'.mut = true := by
      cases z' with
      | frz d => cases o' with
        | none => cases h3'; exact mt
        | some y => cases y <;> (cases h3'; exact mt)
      | exn c => cases o' with
        | none => cases h3'
        | some y => cases y <;> cases h3'
      | own d => rfl
      | bor d => rfl
    exact J.ds i j z z' p h2 h2' m1 m2 ai aj
  · cases eh : H p with
    | none => exact I.bs p hp eh
    | some o =>
      by_cases hm : MutA env σ p
      · exact J.bs p hm z
      · rw [J.fr p o eh hm] at z; cases z
/-- an object that nobody knows changes -/
theorem In.poke (I : In C F H σ env) {A : Addr} {o o' : HO} (hA : H A = some o') (nF : F A = Option.none) (n0 : C.H0 A = Option.none) (nM : ¬ MutA env σ A) : In C F (upd H A o) σ env := by
  refine ⟨I.f0, fun a x h => ?_, fun a x h hb => ?_, I.nf, I.len, fun i s h => ?_, I.ds, fun q hq => ?_⟩
  · rw [upd_ne (ne_of_none h nF)]; exact I.fh _ _ h
  · rw [upd_ne (ne_of_none h n0)]; exact I.fr _ _ h hb
  · obtain ⟨v, hv, hs⟩ := I.sl i s h
    refine ⟨v, hv, ?_⟩
    cases s with
    | frz d => exact hs
    | exn c => exact hs
    | own d =>
      obtain ⟨q, e, h1, h2, h3⟩ := hs
      have ne : q ≠ A := fun z => nM ⟨i, _, h, rfl, by rw [hv, e, z]⟩
      exact ⟨q, e, h1, h2, h3.keep (.refl _) fun x hx => by rw [upd_ne ne]; exact hx⟩
    | bor d =>
      obtain ⟨q, e, h1, h2, h3⟩ := hs
      have ne : q ≠ A := fun z => nM ⟨i, _, h, rfl, by rw [hv, e, z]⟩
      exact ⟨q, e, h1, h2, h3.keep (.refl _) fun x hx => by rw [upd_ne ne]; exact hx⟩
  · by_cases e : q = A
    · rw [e, upd_same]; exact fun z => nomatch z
    · rw [upd_ne e]; exact I.bs q hq
theorem mut_back {e : DEnv} {A : Addr} (h : MutA (backE env e) σ A) : MutA env σ A := by
  obtain ⟨i, s, h1, h2, h3⟩ := h
  obtain ⟨o, z, q1, q2, q3⟩ := back_get h1
  cases o with
  | none => cases z <;> first | (cases q3; done) | (cases q3; cases h2)
  | some y =>
    cases y with
    | frz d => cases z <;> first | (cases q3; done) | (cases q3; cases h2)
    | exn c => cases z <;> first | (cases q3; done) | (cases q3; cases h2)
    | own d => exact ⟨i, _, q1, rfl, h3⟩
    | bor d => exact ⟨i, _, q1, rfl, h3⟩
theorem qts_nil : PTs X [] (tDT C yesT) := PTs.weak pts_nil fun σ H Q ⟨F, env, I, h⟩ => h.here I
theorem qts_one {c : Expr} {t : DT} (h : PT X c (tDT C t)) : PTs X [c] (tDT C t) := pts_one h
/-- readings in a comprehension's block, whatever the ground -/
structure Gnd (C C' : Cd) : Prop where
  z : C'.rz = false
  k : C'.K = C.K
  m : C'.mg = C.mg
def tGe (C : Cd) (f : DE) : TE := fun σ H Q => ∃ C', Gnd C C' ∧ tDz C' f σ H Q
def tGt (C : Cd) (f : DT) : TT := fun σ H Q => ∃ C', Gnd C C' ∧ tDT C' f σ H Q
def tGg (C : Cd) (ts : List Nat) (g : DG) : TG := fun v σ H Q => ∃ C', Gnd C C' ∧ tDG C' ts g v σ H Q
theorem t_lc {fi : DI} {gg : DG} {tt : DT} {te : DE} {ts vs zs : List Nat} {Q : VK} (hts : ∀ i ∈ ts, i ∈ vs) : tD C (compD fi gg tt te vs zs) σ H Q → tLc (tDI C fi) (tGg C ts gg) (tGt C tt) (tGe C te) vs σ H Q := fun ⟨F, env, I, h⟩ => ⟨F, env, I, (Fin.bnd h).imp fun ds e F0 H1 I0 s0 h0 J ok0 A nA => by
  obtain ⟨F1, I1, s1⟩ := I0.frzAll zs
  have ok : ItOk C J ds F1 := fun F H σ env i s I => ok0 F H σ env i (s1.trans s) I
  have h1 : Fin C F1 σ (bind0 (lcD gg tt te vs ds [] (wipeE (frzE e zs) vs)) fun q => .ok (.own (.lst q.1), q.2)) fun s e F' H' => ∀ v, Res C F' H' e σ s v → Q v H' := Fin.le s1 h0
  have Iw := I1.wipe vs
  refine ⟨fun i m H => m = ds.length - i ∧ i ≤ ds.length ∧ ∃ F env acc xs, In C F H (L2.wipe σ vs) env ∧ Same F1 F ∧ F A = none ∧ C.H0 A = none ∧ ¬ MutA env (L2.wipe σ vs) A ∧ H A = some (.lst xs) ∧ RepL C.K C.mg F acc xs ∧
    (match lcD gg tt te vs (ds.drop i) acc env with | .ok q => ∀ F' H', In C F' H' σ q.2 → Same F F' → ∀ v, Res C F' H' q.2 σ (.own (.lst q.1)) v → Q v H' | _ => False), ⟨ds.length, by simp, Nat.zero_le _, F1, _, [], [], Iw.fresh nA, .refl _, I1.none nA, I1.none0 nA, fun ⟨i, s, h1, h2, h3⟩ => Iw.slotNe nA i s h1 h2 h3, upd_same, repNil, ?_⟩, ?_⟩
  · rw [List.drop_zero]
    cases el : lcD gg tt te vs ds [] (wipeE (frzE e zs) vs) with
    | no => rw [el] at h1; exact h1
    | er c fs z => rw [el] at h1; exact h1
    | ok q => rw [el] at h1; exact fun F' H' I' s' v r => h1 F' H' I' s' v r
  · rintro i m H ⟨rfl, hi, F, env, acc, xs, I, sF, nF, n0, nM, hA, rA, h⟩
    rcases Nat.lt_or_ge i ds.length with hlt | hge
    · have ed : ds[i]? = some ds[i] := List.getElem?_eq_getElem hlt
      obtain ⟨go, yl⟩ := (ok F H _ env i sF I).1 _ ed
      refine .inr ⟨go, fun H => ∃ F env acc xs, In C F H (L2.wipe σ vs) env ∧ Same F1 F ∧ F A = none ∧ C.H0 A = none ∧ ¬ MutA env (L2.wipe σ vs) A ∧ H A = some (.lst xs) ∧ RepL C.K C.mg F acc xs ∧
        (match lcD gg tt te vs (ds.drop (i + 1)) acc env with | .ok q => ∀ F' H', In C F' H' σ q.2 → Same F F' → ∀ v, Res C F' H' q.2 σ (.own (.lst q.1)) v → Q v H' | _ => False), fun H' q => ⟨ds.length - (i + 1), by omega, rfl, hlt, q⟩, fun x H' y => ?_⟩
      obtain ⟨F', xt, r'⟩ := yl x H' y
      have I' := I.call xt
      have hA' : H' A = some (.lst xs) := xt.hh _ _ hA
      have nF' : F' A = none := by
        cases e : F' A with
        | none => rfl
        | some o =>
          rcases xt.nf A o e with z | z
          · rw [nF] at z; cases z
          · rw [hA] at z; cases z
      rw [List.drop_eq_getElem_cons hlt] at h
      unfold lcD at h
      cases eg : gg ds[i] (lendE env) with
      | none => simp only [eg] at h
      | some e' =>
        simp only [eg] at h
        have Il := I'.lendTo
        refine ⟨⟨C.K, C.mg, F', H', MutA env (L2.wipe σ vs), W0, C.ex, C.exc, false⟩, ⟨rfl, rfl, rfl⟩, F', lendE env, ds[i], e', Il, r', eg, fun σ2 F2 H2 I2 s2 ag => ⟨(wipe_agree ag vs hts).trans (wipe_wipe σ vs), ?_⟩⟩
        have ew : L2.wipe σ2 vs = L2.wipe σ vs := (wipe_agree ag vs hts).trans (wipe_wipe σ vs)
        cases ett : tt e' with
        | no => simp only [ett, bind0] at h
        | er c fs z => simp only [ett, bind0] at h
        | ok p =>
          simp only [ett, bind0_ok] at h
          refine ⟨⟨C.K, C.mg, F', H', MutA env (L2.wipe σ vs), W0, C.ex, C.exc, false⟩, ⟨rfl, rfl, rfl⟩, F2, e', I2, ?_⟩
          rw [ett]
          intro F3 H3 I3 s3
          obtain ⟨b, e3⟩ := p
          cases b with
          | true =>
            simp only at h
            cases ete : te e3 with
            | no => simp only [ete, bind0] at h
            | er c fs z => simp only [ete, bind0] at h
            | ok q =>
              simp only [ete, bind0_ok] at h
              by_cases hl : acc.length < lim
              · rw [if_pos hl] at h
                refine iteT ⟨⟨C.K, C.mg, F', H', MutA env (L2.wipe σ vs), W0, C.ex, C.exc, false⟩, ⟨rfl, rfl, rfl⟩, F3, e3, I3, ?_⟩
                rw [ete]
                intro F4 H4 I4 s4 w rw_
                have hA4 : H4 A = some (.lst xs) := I4.fr A _ hA' nM
                have nF4 : F4 A = none := by
                  cases e : F4 A with
                  | none => rfl
                  | some o =>
                    rcases I4.nf A o e with z | z
                    · have z : F' A = some o := z
                      rw [nF'] at z; cases z
                    · have z : H' A = none := z
                      rw [hA'] at z; cases z
                have I5 := I4.wipe vs
                rw [ew] at I5
                have I6 := I'.backFrom I5
                have nM6 : ¬ MutA (backE env (wipeE q.2 vs)) (L2.wipe σ vs) A := fun z => nM (mut_back z)
                have s14 : Same F F4 := xt.ff.trans I4.f0
                refine ⟨xs, hA4, by rw [rA.len]; exact lim_lt (Nat.le_of_lt hl), F4, _, acc ++ [q.1.d], xs ++ [w], I6.poke hA4 nF4 n0 nM6, sF.trans s14, nF4, n0, nM6, upd_same, (rA.mono s14).app (repCons rw_ repNil), ?_⟩
                revert h
                cases lcD gg tt te vs (ds.drop (i + 1)) (acc ++ [q.1.d]) (backE env (wipeE q.2 vs)) with
                | no => exact fun z => z
                | er c fs z => exact fun z => z
                | ok u => exact fun h F' H' I' s' v r => h F' H' I' (s14.trans s') v r
              · rw [if_neg hl] at h; exact h.elim
          | false =>
            simp only at h
            have hA4 : H3 A = some (.lst xs) := I3.fr A _ hA' nM
            have nF4 : F3 A = none := by
              cases e : F3 A with
              | none => rfl
              | some o =>
                rcases I3.nf A o e with z | z
                · have z : F' A = some o := z
                  rw [nF'] at z; cases z
                · have z : H' A = none := z
                  rw [hA'] at z; cases z
            have I5 := I3.wipe vs
            rw [ew] at I5
            have I6 := I'.backFrom I5
            have nM6 : ¬ MutA (backE env (wipeE e3 vs)) (L2.wipe σ vs) A := fun z => nM (mut_back z)
            have s14 : Same F F3 := xt.ff.trans I3.f0
            refine iteF ⟨F3, _, acc, xs, I6, sF.trans s14, nF4, n0, nM6, hA4, rA.mono s14, ?_⟩
            revert h
            cases lcD gg tt te vs (ds.drop (i + 1)) acc (backE env (wipeE e3 vs)) with
            | no => exact fun z => z
            | er c fs z => exact fun z => z
            | ok u => exact fun h F' H' I' s' v r => h F' H' I' (s14.trans s') v r
    · have e : i = ds.length := by omega
      subst e
      rw [List.drop_length] at h
      refine .inl ⟨(ok F H _ env _ sF I).2 rfl, h F H I.unwipe (.refl _) (.ref A) ⟨A, rfl, nF, n0, ⟨xs, hA, rA⟩, fun i s h1 h2 h3 => ?_⟩⟩
      obtain ⟨v, hv, _⟩ := I.sl i s h1
      have := (wipe_some hv).1
      rw [h3] at this
      cases this
      exact nM ⟨i, s, h1, h2, hv⟩⟩
variable {elt tg iter : Expr} {ifs : List Expr} {scope : Scope} {own : List (Str × Nat)} {pos spos py : Pos} {fi : DI} {gg : DG} {tt : DT} {te : DE} {ts zs : List Nat}
theorem Fit.blk {C' : Cd} {s : Shared} {H : Hp} {scope : Scope} {cenv : Env} {fp : List Addr} (ft : Fit X C) (g : Gnd C C') : Fit (X.blk s H scope cenv fp) C' := ⟨ft.k.trans g.k.symm, ft.m.trans g.m.symm⟩
theorem PE.ex {X : Cx} {e : Expr} {f : DE} (h : ∀ C', Gnd C C' → PE X e (tD C' f)) : PE X e (tGe C f) := ⟨fun pins s σ H Q I ⟨C', g, w⟩ => (qz (h C' g)).run pins s σ H Q I w⟩
theorem PTs.ex {X : Cx} {e : List Expr} {f : DT} (h : ∀ C', Gnd C C' → PTs X e (tDT C' f)) : PTs X e (tGt C f) := ⟨fun pins s σ H Q I ⟨C', g, w⟩ => (h C' g).run pins s σ H Q I w⟩
theorem PG.ex {X : Cx} {e : Expr} {ts : List Nat} {f : DG} (h : ∀ C', Gnd C C' → PG X e (tDG C' ts f)) : PG X e (tGg C ts f) := ⟨fun pins s σ H v u Q I r ⟨C', g, w⟩ => (h C' g).run pins s σ H v u Q I r w⟩
theorem qe_lc (hc : X.calm = true) (hN : X.N.Nodup) (hi : PI X tg iter (tDI C fi)) (ok : BlkOk X.N X.env.scope scope own)
    (hg : ∀ (s : Shared) (H : Hp) (A : Addr) (cl : List (Str × Addr)) (fp : List Addr) (C' : Cd), Gnd C C' → PG (X.blk s H scope (compEnvC scope cl A X.env) fp) tg (tDG C' ts gg)) (ht : ∀ (s : Shared) (H : Hp) (A : Addr) (cl : List (Str × Addr)) (fp : List Addr) (C' : Cd), Gnd C C' → PTs (X.blk s H scope (compEnvC scope cl A X.env) fp) ifs (tDT C' tt))
    (he : ∀ (s : Shared) (H : Hp) (A : Addr) (cl : List (Str × Addr)) (fp : List Addr) (C' : Cd), Gnd C C' → PE (X.blk s H scope (compEnvC scope cl A X.env) fp) elt (tD C' te)) (hts : ∀ i ∈ ts, i ∈ own.map (·.2) := by decide) (hs : ∀ x, foldedSetIterable iter X.env x = pure x := by intro _; rfl) :
    PE X (.ListComp elt [⟨tg, iter, ifs, 0⟩] scope pos) (tD C (compD fi gg tt te (own.map (·.2)) zs)) :=
  PE.weak (pe_lc hc hN hi ok (fun s H A cl fp => PG.ex (hg s H A cl fp)) (fun s H A cl fp => PTs.ex (ht s H A cl fp)) (fun s H A cl fp => PE.ex (he s H A cl fp)) hs) fun _ _ _ h => t_lc hts h
theorem qs_setLc {i : Nat} {y : Str} (hc : X.calm = true) (hN : X.N.Nodup) (hy : X.N[i]? = some y) (hyl : X.env.scope.names.lookup y = some .local) (hsw : swapsWith (.ListComp elt [⟨tg, iter, ifs, 0⟩] scope pos) (some (.Name y py)) spos.line X.env = pure true) (hi : PI X tg iter (tDI C fi)) (ok : BlkOk X.N X.env.scope scope own)
    (hg : ∀ (s : Shared) (H : Hp) (A : Addr) (cl : List (Str × Addr)) (fp : List Addr) (C' : Cd), Gnd C C' → PG (X.blk s H scope (compEnvC scope cl A X.env) fp) tg (tDG C' ts gg)) (ht : ∀ (s : Shared) (H : Hp) (A : Addr) (cl : List (Str × Addr)) (fp : List Addr) (C' : Cd), Gnd C C' → PTs (X.blk s H scope (compEnvC scope cl A X.env) fp) ifs (tDT C' tt))
    (he : ∀ (s : Shared) (H : Hp) (A : Addr) (cl : List (Str × Addr)) (fp : List Addr) (C' : Cd), Gnd C C' → PE (X.blk s H scope (compEnvC scope cl A X.env) fp) elt (tD C' te)) (hts : ∀ i ∈ ts, i ∈ own.map (·.2) := by decide) (hs : ∀ x, foldedSetIterable iter X.env x = pure x := by intro _; rfl) :
    PS X (.Assign [.Name y py] (.ListComp elt [⟨tg, iter, ifs, 0⟩] scope pos) spos) (tDS C (setD i (compD fi gg tt te (own.map (·.2)) zs))) :=
  PS.weak (ps_setLc hc hN hy hyl hsw hi ok (fun s H A cl fp => PG.ex (hg s H A cl fp)) (fun s H A cl fp => PTs.ex (ht s H A cl fp)) (fun s H A cl fp => PE.ex (he s H A cl fp)) hs) fun T σ H h => t_lc hts (t_set h)
end
end Dd

namespace Dd
open PySem PySem.Spec PyProof.Rows L2
/-! ### methods that change a list -/
def isL : D → Bool
  | .lst _ => true
  | _ => false
def mutD (g : List D → List D → Option (Sl × List D)) (i : Nat) (fs : List DE) : DE := fun env => match env[i]? with
  | some (some s0) => if s0.mut && isL s0.d then (argsD fs env).bind fun p => (match p.2[i]? with
    | some (some s) => (match s.mut, s.d with
      | true, .lst ds => (match g ds p.1 with
        | some (r, ds') => .ok (r, p.2.set i (some (s.put (.lst ds'))))
        | none => .no)
      | _, _ => .no)
    | _ => .no) else .no
  | _ => .no
def scalar : Sl → V → Prop
  | .frz d, v => flatD d = true ∧ ∀ K mg H, Rep K mg H d v
  | _, _ => False
def MuOk (C : Cd) (r : V → List V → Hp → VK → Prop) (g : List D → List D → Option (Sl × List D)) : Prop := ∀ (F H : Hp) (p : Addr) (xs vs : List V) (ds es ds' : List D) (s : Sl) (Q : VK), H p = some (.lst xs) → RepL C.K C.mg F ds xs → RepL C.K C.mg F es vs → g ds es = some (s, ds') →
  (∀ xs' v, RepL C.K C.mg F ds' xs' → (match s with | .frz d => Rep C.K C.mg F d v | _ => False) → Q v (upd H p (.lst xs'))) → r (.ref p) vs H Q
section
variable {X : Cx} {C : Cd} {o e : Expr} {es : List Expr} {fs : List DE} {apos cpos pos : Pos} {name : Str} {id : String}
theorem t_mut {i : Nat} {r : V → List V → Hp → VK → Prop} {g : List D → List D → Option (Sl × List D)} (ok : MuOk C r g) {σ : L2.St} {H : Hp} {Q : VK} : tD C (mutD g i fs) σ H Q → tBM C.K "list" r (tVar i) (tDA C fs) σ H Q := fun ⟨F, env, I, h⟩ => by
  unfold mutD at h
  cases ei : env[i]? with
  | none => rw [ei] at h; exact h.elim
  | some z =>
    cases z with
    | none => rw [ei] at h; exact h.elim
    | some s0 =>
      rw [ei] at h
      simp only at h
      by_cases hm : (s0.mut && isL s0.d) = true
      · rw [if_pos hm] at h
        rw [Bool.and_eq_true] at hm
        have own0 : ∃ p xs, σ[i]? = some (some (.ref p)) ∧ H p = some (.lst xs) := by
          obtain ⟨v, hv, hs⟩ := I.sl i s0 ei
          have : ∀ d p, Own C.K C.mg F H d p → isL d = true → ∃ xs, H p = some (.lst xs) := fun d p ho hl => by
            cases d <;> first | (cases hl; done) | (obtain ⟨xs, h1, _⟩ := ho; exact ⟨xs, h1⟩)
          cases s0 with
          | frz d => cases hm.1
          | exn c => cases hm.1
          | own d => obtain ⟨p, rfl, _, _, ho⟩ := hs; obtain ⟨xs, hx⟩ := this d p ho hm.2; exact ⟨p, xs, hv, hx⟩
          | bor d => obtain ⟨p, rfl, _, _, ho⟩ := hs; obtain ⟨xs, hx⟩ := this d p ho hm.2; exact ⟨p, xs, hv, hx⟩
        obtain ⟨p, xs, hv, hx⟩ := own0
        refine ⟨_, hv, .inl ⟨rfl, xs, .inl (.inl hx)⟩, F, env, I, (Fin.bnd h).imp fun ds e F1 H1 I1 s1 h1 vs rv => ?_⟩
        cases e1 : e[i]? with
        | none => simp only [e1] at h1; exact h1.elim
        | some z =>
          cases z with
          | none => simp only [e1] at h1; exact h1.elim
          | some s =>
            simp only [e1] at h1
            obtain ⟨v', hv', hs⟩ := I1.sl i s e1
            rw [hv] at hv'
            cases hv'
            have fin : ∀ zs, s.mut = true → s.d = .lst zs → Own C.K C.mg F1 H1 (.lst zs) p → r (.ref p) vs H1 Q := by
              intro zs ms hd ho
              simp only [ms, hd] at h1
              obtain ⟨ys, hy, ry⟩ := ho
              cases eg : g zs ds with
              | none => simp only [eg] at h1; exact h1.elim
              | some q =>
                obtain ⟨t, ds'⟩ := q
                simp only [eg] at h1
                refine ok F1 H1 p ys vs zs ds ds' t Q hy ry rv eg fun xs' v rx hvv => ?_
                cases t with
                | frz d => exact h1 F1 _ (I1.change e1 ms hv ⟨xs', upd_same, rx⟩) (.refl _) v hvv
                | _ => exact hvv.elim
            cases s with
            | frz d => simp only [Sl.mut] at h1; exact h1.elim
            | exn c => simp only [Sl.mut] at h1; exact h1.elim
            | own d =>
              obtain ⟨q, e, _, _, ho⟩ := hs
              cases e
              cases d with
              | lst zs => exact fin zs rfl rfl ho
              | _ => simp only [Sl.mut, Sl.d] at h1; exact h1.elim
            | bor d =>
              obtain ⟨q, e, _, _, ho⟩ := hs
              cases e
              cases d with
              | lst zs => exact fin zs rfl rfl ho
              | _ => simp only [Sl.mut, Sl.d] at h1; exact h1.elim
      · rw [if_neg hm] at h; exact h.elim
def gAppend : List D → List D → Option (Sl × List D)
  | ds, [e] => if ds.length < lim then some (.frz .non, ds ++ [e]) else none
  | _, _ => none
theorem ok_append : MuOk C rAppend gAppend := by
  intro F H p xs vs ds es ds' s Q hp r1 r2 hg k
  unfold gAppend at hg
  split at hg
  · split at hg
    · rename_i hl
      cases hg
      obtain ⟨x, rfl, rx⟩ := rep1 r2
      exact ⟨p, xs, x, rfl, rfl, hp, by rw [r1.len]; exact lim_lt (Nat.le_of_lt hl), k _ _ (r1.app (repCons rx repNil)) rNon⟩
    · cases hg
  · cases hg
def gInsert : List D → List D → Option (Sl × List D)
  | ds, [.int i, e] => if ds.length < lim ∧ 0 ≤ i ∧ i < 2 ^ 63 then some (.frz .non, ds.take i.toNat ++ [e] ++ ds.drop i.toNat) else none
  | _, _ => none
def rInsert : V → List V → Hp → VK → Prop := fun x vs H Q => ∃ (l : Addr) (xs : List V) (i : Int) (y : V), x = .ref l ∧ vs = [.int i, y] ∧ H l = some (.lst xs) ∧ xs.length < sizeLine ∧ 0 ≤ i ∧ i < 2 ^ 63 ∧ Q .non (upd H l (.lst (xs.take i.toNat ++ [y] ++ xs.drop i.toNat)))
theorem ok_insert : MuOk C rInsert gInsert := by
  intro F H p xs vs ds es ds' s Q hp r1 r2 hg k
  unfold gInsert at hg
  split at hg
  · split at hg
    · rename_i hl
      cases hg
      obtain ⟨x, y, rfl, rx, ry⟩ := rep2 r2
      rw [rx.int]
      exact ⟨p, xs, _, y, rfl, rfl, hp, by rw [r1.len]; exact lim_lt (Nat.le_of_lt hl.1), hl.2.1, hl.2.2, k _ _ (((r1.take _).app (repCons ry repNil)).app (r1.drop _)) rNon⟩
    · cases hg
  · cases hg
theorem qe_mut {i : Nat} {r : V → List V → Hp → VK → Prop} {g : List D → List D → Option (Sl × List D)} (ft : Fit X C) (pa : PlainAttrs "list") (slot : Slot "list" name id) (hty : typeOf (.builtin id) = pure (.type "method_descriptor")) (hm : MtR X id r) (ok : MuOk C r g) (ho : PE X o (tVar i)) (ha : PA X (e :: es) (tDA C fs))
    (hbase : attributeBase o name X.env (eval o X.env) = eval o X.env := by rfl)
    (hfew : ((backTo cpos (starEach (e :: es) X.env)).all (fun x => !x.1) && (backToKw cpos (keywordEach [] X.env)).all (fun x => x.1.isSome)
      && decide ((e :: es).length + ([] : List Keyword).length + (if ([] : List Keyword).isEmpty then 0 else 1) < 30)) = true := by rfl)
    (hline : (apos.endLine == cpos.line) = true := by rfl) (hs : starEach (e :: es) X.env = (false, eval e X.env) :: starEach es X.env := by rfl) (hplain : (backTo cpos (starEach es X.env)).any (·.1) = false := by rfl) :
    PE X (.Call (.Attribute o name apos) (e :: es) [] cpos) (tD C (mutD g i fs)) := by
  have q := pe_bm (apos := apos) pa slot hty hm ho ha hbase hfew hline hs hplain
  rw [ft.k] at q
  exact PE.weak q fun _ _ _ h => t_mut ok h
/-- x[i] = e -/
def setIxD (i : Nat) (fe fk : DE) : DS := fun env => bindS (fe env) fun p => match p.2[i]? with
  | some (some _) => bindS (fk p.2) fun q => (match q.2[i]? with
    | some (some s) => (match s.mut, s.d, q.1.d with
      | true, .lst ds, .int k => (match ixN ds.length k with
        | some j => .ok (.nx (q.2.set i (some (s.put (.lst (ds.set j p.1.d))))))
        | none => .no)
      | _, _, _ => .no)
    | _ => .no)
  | _ => .no
theorem qs_setIx {i : Nat} {k : Expr} {fe fk : DE} {tpos : Pos} (ho : PE X o (tVar i)) (hk : PE X k (tD C fk)) (he : PE X e (tD C fe))
    (hset : ∀ v, assign (.Subscript o k tpos) X.env v = (do
      let ov ← holding [v] (eval o X.env)
      let iv ← holding [v, ov] (eval k X.env)
      standAt tpos
      holding [v, ov, iv] (setItem ov iv v)
      release [v, ov, iv] []) := by intro _; rfl)
    (hs : swapsWithSole [.Subscript o k tpos] e pos.line X.env = pure false := by rfl) (hw : swappedStores [.Subscript o k tpos] e X.env = pure none := by rfl)
    (h1 : (assignEach [.Subscript o k tpos] X.env).map (·.2) = [assign (.Subscript o k tpos) X.env] := by rfl) : PS X (.Assign [.Subscript o k tpos] e pos) (tDS C (setIxD i fe fk)) :=
  PS.weak (ps_asg (qz he) (pg_sub ho (qz hk) set_list hset) hs hw h1) fun T σ H ⟨F, env, I, h⟩ => ⟨F, env, I, (FinS.bnd h).imp fun s e F1 H1 I1 s1 h1 v rv => by
    cases ei : e[i]? with
    | none => simp only [ei] at h1; exact h1.elim
    | some z =>
      cases z with
      | none => simp only [ei] at h1; exact h1.elim
      | some s0 =>
        simp only [ei] at h1
        obtain ⟨w, hv, _⟩ := I1.sl i s0 ei
        refine ⟨w, hv, F1, e, I1, (FinS.bnd h1).imp fun t e2 F2 H2 I2 s2 h2 y ry => ?_⟩
        cases e1 : e2[i]? with
        | none => simp only [e1] at h2; exact h2.elim
        | some z =>
          cases z with
          | none => simp only [e1] at h2; exact h2.elim
          | some u =>
            simp only [e1] at h2
            obtain ⟨v', hv', hs⟩ := I2.sl i u e1
            rw [hv] at hv'
            cases hv'
            have fin : ∀ zs p, w = .ref p → u.mut = true → u.d = .lst zs → Own C.K C.mg F2 H2 (.lst zs) p → rSetL w y v H2 fun H3 => T.nx σ H3 := by
              intro zs p ew mu hd ho
              subst ew
              obtain ⟨ys, hy, rys⟩ := ho
              cases hk : t.d with
              | int k =>
                simp only [mu, hd, hk] at h2 ry
                cases ej : ixN zs.length k with
                | none => simp only [ej] at h2; exact h2.elim
                | some j =>
                  simp only [ej] at h2
                  exact ⟨p, ys, k, j, rfl, ry.int, hy, by rw [rys.len]; exact ej, h2 σ F2 _ (I2.change e1 mu hv ⟨_, upd_same, rys.set j (rv.mono s2)⟩) (.refl _)⟩
              | _ => simp only [mu, hd, hk] at h2; exact h2.elim
            cases u with
            | frz d => simp only [Sl.mut] at h2; exact h2.elim
            | exn c => simp only [Sl.mut] at h2; exact h2.elim
            | own d =>
              obtain ⟨q, rfl, _, _, ho⟩ := hs
              cases d with
              | lst zs => exact fin zs q rfl rfl rfl ho
              | _ => simp only [Sl.mut, Sl.d] at h2; exact h2.elim
            | bor d =>
              obtain ⟨q, rfl, _, _, ho⟩ := hs
              cases d with
              | lst zs => exact fin zs q rfl rfl rfl ho
              | _ => simp only [Sl.mut, Sl.d] at h2; exact h2.elim⟩
/-- a, b = x, y -/
def parD (i j : Nat) (fs : List DE) : DS := fun env => bindS (argsD fs env) fun p => match p.1 with
  | [a, b] => .ok (.nx ((p.2.set i (some (.frz a))).set j (some (.frz b))))
  | _ => .no
theorem t_par {i j : Nat} {T : Ends} {σ : L2.St} {H : Hp} : tDS C (parD i j fs) T σ H → tPar i j (tDA C fs) T σ H := fun ⟨F, env, I, h⟩ => ⟨F, env, I, (FinS.bnd h).imp fun ds e F1 H1 I1 s1 h1 vs rv => by
  simp only at h1
  split at h1
  · obtain ⟨x, y, rfl, rx, ry⟩ := rep2 rv
    exact ⟨x, y, rfl, h1 _ F1 H1 ((I1.put rx).put ry) (.refl _)⟩
  · exact h1.elim⟩
/-- a < b < c -/
def chainD (g g' : D → D → Option Sl) (fa fb fc : DE) : DE := fun env => (fa env).bind fun p => (fb p.2).bind fun q => match g p.1.d q.1.d with
  | some (.frz (.bl true)) => (fc q.2).bind fun r => (match g' q.1.d r.1.d with
    | some (.frz (.bl b)) => .ok (.frz (.bl b), r.2)
    | _ => .no)
  | some (.frz (.bl false)) => .ok (.frz (.bl false), q.2)
  | _ => .no
end
/-! ### what is raised and caught -/
def raiseD (c : Str) : DS := fun env => .er c [] env
section
variable {X : Cx} {C : Cd} {e : Expr} {pos : Pos} {c : Str}
theorem qs_raise {t : L2.St → Hp → XK → Prop} (hc : X.calm = true) (tk : Takes X C.W) (he : PMk X e t) (ht : ∀ σ H Q, Q (.ref (clsA C.mg c)) none H → t σ H Q) : PS X (.Raise (some e) none pos) (tDS C (raiseD c)) :=
  PS.weak (ps_raise hc tk he) fun T σ H ⟨F, env, I, h⟩ => ht σ H _ (h.2 none σ F H I (.refl _) rfl)
theorem qs_raise0 {st : Stmt} (hW : C.rz = false) : PS X st (tDS C (raiseD c)) :=
  PS.weak ps_never fun T σ H ⟨F, env, I, h⟩ => by
    have q := h.1
    rw [hW] at q
    exact nomatch q
/-- code that is never come to -/
def noD : DS := fun _ => .no
theorem qs_no {st : Stmt} : PS X st (tDS C noD) := PS.weak ps_never fun T σ H ⟨F, env, I, h⟩ => h.elim
end
def isExn : Option Sl → Bool
  | some (.exn _) => true
  | _ => false
def noExn (env : DEnv) : DEnv := env.map fun o => if isExn o then none else o
/-- try: body except X as n: suite; cl: what is caught -/
def tryD (gb : DS) (i : Nat) (cl : Str → Bool) (gs : DS) : DS := fun env => match gb env with
  | .er c [] e => if cl c then (match gs ((noExn e).set i (some (.exn c))) with
    | .ok (.nx z) => .ok (.nx (noExn (z.set i none)))
    | .ok (.bk z) => .ok (.bk (noExn (z.set i none)))
    | .ok (.ct z) => .ok (.ct (noExn (z.set i none)))
    | .ok (.rt s z) => .ok (.rt s (noExn z))
    | _ => .no) else .no
  | .er _ _ _ => .no
  | r => r
section
variable {X : Cx} {C : Cd} {F H : Hp} {σ : L2.St} {env : DEnv}
theorem noExn_get {i : Nat} {s : Sl} (h : (noExn env)[i]? = some (some s)) : env[i]? = some (some s) ∧ ∀ c, s ≠ .exn c := by
  unfold noExn at h
  rw [List.getElem?_map] at h
  cases e : env[i]? with
  | none => rw [e] at h; cases h
  | some o =>
    rw [e] at h
    simp only [Option.map] at h
    cases o with
    | none => cases h
    | some t =>
      cases t <;> first | (cases h; done) | skip
      all_goals (simp [isExn] at h; subst h; exact ⟨rfl, fun c z => nomatch z⟩)
/-- the ground but for what is raised -/
structure Alike (C C' : Cd) : Prop where
  k : C'.K = C.K
  m : C'.mg = C.mg
  f : C'.F0 = C.F0
  h : C'.H0 = C.H0
  b : C'.B = C.B
theorem In.noExn {C' : Cd} (al : Alike C C') (I : In C F H σ env) : In C' F H σ (noExn env) := by
  obtain ⟨K', mg', F0', H0', B', W', ex', exc', rz'⟩ := C'
  obtain ⟨e1, e2, e3, e4, e5⟩ := al
  simp only at e1 e2 e3 e4 e5
  subst e1 e2 e3 e4 e5
  refine ⟨I.f0, I.fh, I.fr, I.nf, by unfold Dd.noExn; rw [List.length_map]; exact I.len, fun i s h => ?_, fun i j s t p hi hj => I.ds i j s t p (noExn_get hi).1 (noExn_get hj).1, I.bs⟩
  obtain ⟨h1, h2⟩ := noExn_get h
  obtain ⟨v, hv, r⟩ := I.sl i s h1
  refine ⟨v, hv, ?_⟩
  cases s with
  | frz d => exact r
  | own d => exact r
  | bor d => exact r
  | exn c => exact absurd rfl (h2 c)
theorem Res.noExn {C' : Cd} (al : Alike C C') {s : Sl} {v : V} (r : Res C F H env σ s v) : Res C' F H (noExn env) σ s v := by
  obtain ⟨K', mg', F0', H0', B', W', ex', exc', rz'⟩ := C'
  obtain ⟨e1, e2, e3, e4, e5⟩ := al
  simp only at e1 e2 e3 e4 e5
  subst e1 e2 e3 e4 e5
  cases s with
  | frz d => exact r
  | own d =>
    obtain ⟨p, rfl, f⟩ := r
    exact ⟨p, rfl, f.f, f.h0, f.o, fun i s h => f.ne i s (noExn_get h).1⟩
  | bor d => exact r.elim
  | exn c => exact r.elim
theorem In.setExn (I : In C F H σ env) (i : Nat) : In C F H (σ.set i (some (.ref C.ex))) (env.set i (some (.exn C.exc))) := by
  refine ⟨I.f0, I.fh, I.fr, I.nf, by rw [List.length_set, List.length_set]; exact I.len, fun j s hj => ?_, fun j k s t p hj hk ms mt aj ak => ?_, I.bs⟩
  · by_cases e : i = j
    · subst e
      obtain ⟨hl, es⟩ := set_self hj
      cases es
      refine ⟨_, ?_, rfl, rfl⟩
      rw [List.getElem?_set_self (by rw [I.len]; exact hl)]
    · rw [List.getElem?_set_ne e] at hj ⊢
      exact I.sl j s hj
  · by_cases e : i = j
    · subst e
      obtain ⟨hl, es⟩ := set_self hj
      cases es
      cases ms
    · by_cases e' : i = k
      · subst e'
        obtain ⟨hl, es⟩ := set_self hk
        cases es
        cases mt
      · rw [List.getElem?_set_ne e] at hj aj
        rw [List.getElem?_set_ne e'] at hk ak
        exact I.ds j k s t p hj hk ms mt aj ak
theorem In.reW {W : WX} (I : In C F H σ env) : In { C with W := W, rz := true } F H σ env := ⟨I.f0, I.fh, I.fr, I.nf, I.len, I.sl, I.ds, I.bs⟩
theorem In.unW {W : WX} (I : In { C with W := W, rz := true } F H σ env) : In C F H σ env := ⟨I.f0, I.fh, I.fr, I.nf, I.len, I.sl, I.ds, I.bs⟩
theorem Res.unW {W : WX} {s : Sl} {v : V} (r : Res { C with W := W, rz := true } F H env σ s v) : Res C F H env σ s v := by
  cases s with
  | frz d => exact r
  | own d =>
    obtain ⟨p, rfl, f⟩ := r
    exact ⟨p, rfl, f.f, f.h0, f.o, f.ne⟩
  | bor d => exact r.elim
  | exn c => exact r.elim
def suiteC (C : Cd) (a : Addr) (c : Str) : Cd := { C with W := W0, ex := a, exc := c, rz := false }
def tSu (C : Cd) (cl : Str → Bool) (gs : DS) (a : Addr) (cls : Value) (d : Option Addr) : TS := fun T σ H => ∃ c, cl c = true ∧ cls = .ref (clsA C.mg c) ∧ d = none ∧ tDS (suiteC C a c) gs T σ H
theorem t_try {x : Str} {i : Nat} {cl : Str → Bool} {gb gs : DS} {T : Ends} (caught : ∀ c, cl c = true → PySem.W.exmOne C.K (.ref (clsA C.mg c)) (.ref (clsA C.mg x)) = some true) :
    tDS C (tryD gb i cl gs) T σ H → tDS { C with W := wAs C.K (.ref (clsA C.mg x)) i (tSu C cl gs) W0 T, rz := true } gb T σ H := fun ⟨F, env, I, h⟩ => ⟨F, env, I.reW, by
  unfold tryD at h
  cases e : gb env with
  | no => rw [e] at h; exact h
  | ok o =>
    rw [e] at h
    cases o with
    | nx z => exact fun σ' F' H' I' s' => h σ' F' H' I'.unW s'
    | bk z => exact fun σ' F' H' I' s' => h σ' F' H' I'.unW s'
    | ct z => exact fun σ' F' H' I' s' => h σ' F' H' I'.unW s'
    | rt s z => exact fun v σ' F' H' I' s' r => h v σ' F' H' I'.unW s' r.unW
  | er c fs z =>
    rw [e] at h
    cases fs with
    | cons f r => exact h.elim
    | nil =>
      simp only at h
      by_cases hc : cl c = true
      · rw [if_pos hc] at h
        refine ⟨rfl, ?_⟩
        intro y σ' F' H' I' s' er
        obtain rfl : y = none := er
        refine ⟨true, caught c hc, fun _ a na => ⟨c, hc, rfl, rfl, F', (noExn z).set i (some (.exn c)), In.setExn (C := suiteC C a c) (In.noExn (C := C) (C' := suiteC C a c) ⟨rfl, rfl, rfl, rfl, rfl⟩ I'.unW) i, ?_⟩, fun q => nomatch q⟩
        have al : Alike (suiteC C a c) C := ⟨rfl, rfl, rfl, rfl, rfl⟩
        cases eg : gs ((noExn z).set i (some (.exn c))) with
        | no => simp only [eg] at h; exact h.elim
        | er c fs e => simp only [eg] at h; exact h.elim
        | ok o =>
          cases o with
          | nx y => simp only [eg] at h; exact fun σ2 F2 H2 I2 s2 => h _ F2 H2 ((I2.drop i Option.none).noExn al) (s'.trans s2)
          | bk y => simp only [eg] at h; exact fun σ2 F2 H2 I2 s2 => h _ F2 H2 ((I2.drop i Option.none).noExn al) (s'.trans s2)
          | ct y => simp only [eg] at h; exact fun σ2 F2 H2 I2 s2 => h _ F2 H2 ((I2.drop i Option.none).noExn al) (s'.trans s2)
          | rt s y => simp only [eg] at h; exact fun v σ2 F2 H2 I2 s2 r => h v σ2 F2 H2 (I2.noExn al) (s'.trans s2) (r.noExn al)
      · rw [if_neg hc] at h; exact h.elim⟩
theorem qs_try_as {x n : Str} {i : Nat} {cl : Str → Bool} {gb gs : DS} {body suite : List Stmt} {b₀ : Stmt} {np pos pos' : Pos} (ft : Fit X C) (hs : X.stack = X.env :: X.outer) (hf : X.env.frame = some X.env.locals) (hN : X.N.Nodup) (hi : X.N[i]? = some n) (hln : X.env.kindOf n = some .local) (hc : Names X x (.ref (clsA C.mg x)))
    (caught : ∀ c, cl c = true → PySem.W.exmOne C.K (.ref (clsA C.mg c)) (.ref (clsA C.mg x)) = some true)
    (hb : ∀ (W : WX) (pn : List (Addr × Obj)) (xe : Value → Shared → Prop), Takes (X.tr pn xe) W → PassesOwn (model X.prog X.w) X.A X.env xe → PSs (X.tr pn xe) body (tDS { C with W := W, rz := true } gb))
    (hsu : ∀ (a : Addr) (oe : Obj) (pn : List (Addr × Obj)) (c : Str), cl c = true → Zc (.ref (clsA C.mg c)) none oe → (∃ vs, oe.data = .fields vs) → PSs (X.suite a ((a, oe) :: pn)) (b₀ :: suite) (tDS (suiteC C a c) gs)) :
    PS X (.Try body [.ExceptHandler (some (.Name x np)) (some n) (b₀ :: suite) pos'] [] [] pos) (tDS C (tryD gb i cl gs)) := by
  have q := ps_try_as (tb := fun W => tDS { C with W := W, rz := true } gb) (ts := tSu C cl gs) (Wout := W0) (np := np) (pos := pos) (pos' := pos') hs hf hN hi hln hc takes0 hb (fun a oe cls d pn hz hv => ⟨fun pins s σ H D I ⟨c, h1, h2, h3, w⟩ => by
    subst h2 h3
    exact (hsu a oe pn c h1 hz hv).run pins s σ H D I w⟩)
  rw [ft.k] at q
  exact PS.weak q fun T σ H h => t_try caught h
/-- isinstance(e, T) in the suite -/
def isED (i : Nat) (sub : Str → Option Bool) : DE := fun env => match env[i]? with
  | some (some (.exn c)) => (match sub c with
    | some b => .ok (.frz (.bl b), env)
    | none => .no)
  | _ => .no
theorem qe_isE {a : Addr} {oe : Obj} {pn : List (Addr × Obj)} {c : Str} {cv : V} {cw : Value} {i : Nat} {sub : Str → Option Bool} {e1 e2 : Expr} {p pos : Pos} (ft : Fit X C) (ex : ExcC C.K (clsA C.mg c)) (hz : Zc (.ref (clsA C.mg c)) none oe) (hf : ∃ vs, oe.data = .fields vs)
    (hsub : ∀ b, sub c = some b → PySem.W.kitOne C.K (.ref (clsA C.mg c)) cw = some b) (hcw : ∀ u, RelV cv u → u = cw) (hg : Gl X "isinstance") (hm : X.mg "isinstance" = none) (h1 : PE (X.suite a ((a, oe) :: pn)) e1 (tVar i)) (h2 : PE (X.suite a ((a, oe) :: pn)) e2 (tC cv))
    (hx1 : starEach [e1, e2] X.env = (false, eval e1 X.env) :: starEach [e2] X.env := by rfl) (hx2 : starEach [e2] X.env = (false, eval e2 X.env) :: starEach [] X.env := by rfl) (hpl : (backTo pos (starEach [e2] X.env)).any (·.1) = false := by rfl) :
    PE (X.suite a ((a, oe) :: pn)) (.Call (.Name "isinstance" p) [e1, e2] [] pos) (tD (suiteC C a c) (isED i sub)) := by
  rw [← ft.k] at ex
  have q := pe_callB (X := X.suite a ((a, oe) :: pn)) (x := "isinstance") (p := p) (pos := pos) (call_isE ex hz hf) hg hm (by decide +kernel) (pa_cons h1 (pa_cons h2 pa_nil hx2) hx1) (by decide) (by decide) hx1 hpl
  refine PE.weak q fun σ H Q ⟨F, env, I, h⟩ => ?_
  unfold isED at h
  cases ei : env[i]? with
  | none => rw [ei] at h; exact h.elim
  | some z =>
    rw [ei] at h
    cases z with
    | none => exact h.elim
    | some s =>
      cases s with
      | exn c' =>
        simp only at h
        obtain ⟨v, hv, e1, e2⟩ := I.sl i _ ei
        have e2 : c' = c := e2
        have e1 : v = .ref a := e1
        subst e2 e1
        cases es : sub c' with
        | none => simp only [es] at h; exact h.elim
        | some b =>
          simp only [es] at h
          refine ⟨_, hv, cv, cw, b, rfl, hcw, ?_, h.here I _ (show Rep C.K C.mg F _ _ from rBl)⟩
          have := hsub b es
          rw [← ft.k] at this
          exact this
      | _ => exact h.elim
end
section
variable {X : Cx} {C : Cd} {a b c : Expr} {fa fb fc : DE} {pos : Pos}
theorem OpOk.bl {r : R2} {g : D → D → Option Sl} (ok : OpOk C r g) {F H : Hp} {σ : L2.St} {env : DEnv} {x y : V} {d e : D} {k : Bool} {Q : VK} (I : In C F H σ env) (rx : Rep C.K C.mg F d x) (ry : Rep C.K C.mg F e y) (hg : g d e = some (.frz (.bl k))) (q : ∀ F' H', In C F' H' σ env → Same F F' → Q (.bl k) H') : r x y H Q :=
  ok F H σ env x y d e _ Q I rx ry hg fun v F' H' I' s' rv => by
    have rv : Rep C.K C.mg F' (.bl k) v := rv
    rw [rv.bl]
    exact q F' H' I' s'
theorem t_chain {r r' : R2} {g g' : D → D → Option Sl} (ok : OpOk C r g) (ok' : OpOk C r' g') {σ : L2.St} {H : Hp} {Q : VK} : tD C (chainD g g' fa fb fc) σ H Q → tChain r r' (tDz C fa) (tDz C fb) (tDz C fc) σ H Q := fun ⟨F, env, I, h⟩ =>
  ⟨F, env, I, (Fin.bnd h).imp fun s e F1 H1 I1 s1 h1 x rx => ⟨F1, e, I1, (Fin.bnd h1).imp fun t e2 F2 H2 I2 s2 h2 y ry => by
    cases eg : g s.d t.d with
    | none => simp only [eg] at h2; exact h2.elim
    | some z =>
      cases z with
      | frz d =>
        cases d with
        | bl k =>
          refine ok.bl I2 (rx.mono s2) ry eg fun F3 H3 I3 s3 => ⟨k, rfl, ?_⟩
          cases k with
          | false => simp only [eg] at h2; exact iteF (h2 F3 H3 I3 s3 _ (show Rep C.K C.mg F3 _ _ from rBl))
          | true =>
            simp only [eg] at h2
            refine iteT ⟨F3, e2, I3, (Fin.bnd (Fin.le s3 h2)).imp fun u e4 F4 H4 I4 s4 h4 w rw_ => ?_⟩
            cases eg' : g' t.d u.d with
            | none => simp only [eg'] at h4; exact h4.elim
            | some z =>
              cases z with
              | frz d =>
                cases d with
                | bl k => simp only [eg'] at h4; exact ok'.bl I4 (ry.mono (s3.trans s4)) rw_ eg' fun F5 H5 I5 s5 => h4 F5 H5 I5 s5 _ (show Rep C.K C.mg F5 _ _ from rBl)
                | _ => simp only [eg'] at h4; exact h4.elim
              | _ => simp only [eg'] at h4; exact h4.elim
        | _ => simp only [eg] at h2; exact h2.elim
      | _ => simp only [eg] at h2; exact h2.elim⟩⟩
theorem qe_chain {op op' : CmpOp} {r r' : R2} {g g' : D → D → Option Sl} (ho : OpR X (compareOp op) r) (ho' : OpR X (compareOp op') r') (ok : OpOk C r g) (ok' : OpOk C r' g') (ha : PE X a (tD C fa)) (hb : PE X b (tD C fb)) (hc : PE X c (tD C fc))
    (hm : lastMarks [op, op'] [b, c] = false := by with_unfolding_all rfl) : PE X (.Compare a [op, op'] [b, c] pos) (tD C (chainD g g' fa fb fc)) := PE.weak (pe_chain ho ho' (qz ha) (qz hb) (qz hc) hm) fun _ _ _ h => t_chain ok ok' h
theorem qt_chain {op op' : CmpOp} {r r' : R2} {g g' : D → D → Option Sl} (ho : OpR X (compareOp op) r) (ho' : OpR X (compareOp op') r') (ok : OpOk C r g) (ok' : OpOk C r' g') (ha : PE X a (tD C fa)) (hb : PE X b (tD C fb)) (hc : PE X c (tD C fc))
    (hm : lastMarks [op, op'] [b, c] = false := by with_unfolding_all rfl) : PT X (.Compare a [op, op'] [b, c] pos) (tDT C (boolT (chainD g g' fa fb fc))) := PT.weak (pt_chain ho ho' (qz ha) (qz hb) (qz hc) hm) fun _ _ _ h => t_chain ok ok' (tz_t (t_bool h))
/-- isinstance(x, (T, ..)) -/
def isTD (ts : List String) (fa : DE) : DE := fun env => (fa env).bind fun p => match isiAny p.1.d ts with
  | some b => .ok (.frz (.bl b), p.2)
  | none => .no
theorem kit_any {K : PySem.W.Frag} {mg : Str → Option Value} {H : Hp} {d : D} {v : V} (r : Rep K mg H d v) : ∀ {ts : List String} {b : Bool}, ts ≠ [] → isiAny d ts = some b → ∃ u, TyX K H v u ∧ PySem.W.kitAny K u (ts.map Value.type) = some b
  | t :: ts, b, _, h => by
    unfold isiAny at h
    cases e : isiB d t with
    | none => rw [e] at h; cases h
    | some q =>
      rw [e] at h
      unfold isiB at e
      cases et : tyN d with
      | none => rw [et] at e; cases e
      | some a =>
        rw [et] at e
        refine ⟨.type a, rep_ty r et, ?_⟩
        have base : ∀ {ts : List String} {b : Bool}, isiAny d ts = some b → PySem.W.kitAny K (.type a) (ts.map Value.type) = some b := by
          intro ts
          induction ts with
          | nil => intro b hb; unfold isiAny at hb; cases hb; rfl
          | cons t ts ih =>
            intro b hb
            unfold isiAny at hb
            cases e : isiB d t with
            | none => rw [e] at hb; cases hb
            | some q =>
              rw [e] at hb
              unfold isiB at e
              rw [et] at e
              cases q with
              | true => cases hb; exact kitAny_cons (kit_ty e) (fun z => nomatch z) (fun _ => rfl)
              | false => exact kitAny_cons (kit_ty e) (fun _ => ih hb) (fun z => nomatch z)
        cases q with
        | true => cases h; exact kitAny_cons (kit_ty e) (fun z => nomatch z) (fun _ => rfl)
        | false => exact kitAny_cons (kit_ty e) (fun _ => base h) (fun z => nomatch z)
/-- a written list of types -/
inductive TysP (X : Cx) : List Expr → List String → TA → Prop where
  | nil : TysP X [] [] tNil
  | cons {e : Expr} {es : List Expr} {t : String} {ts : List String} {ta : TA} : PE X e (tC (.ty t)) → TysP X es ts ta → TysP X (e :: es) (t :: ts) (tCons (tC (.ty t)) ta)
theorem TysP.ta {es : List Expr} {ts : List String} {ta : TA} (h : TysP X es ts ta) : ∀ σ H Q, Q (ts.map V.ty) H → ta σ H Q := by
  induction h with
  | nil => exact fun σ H Q q => q
  | cons _ _ ih => exact fun σ H Q q => ih σ H _ q
theorem clsTys : ∀ ts : List String, Paired ClsV (ts.map V.ty) (ts.map Value.type)
  | [] => .nil
  | t :: ts => .cons (.ty t) (clsTys ts)
theorem qe_isT {es : List Expr} {ts : List String} {ta : TA} {p tp : Pos} {k : Nat} (ft : Fit X C) (hn : ts ≠ []) (hl : ts.length ≤ sizeLine) (ht : TysP X es ts ta) (hes : PA X es ta) (hg : Gl X "isinstance") (hm : X.mg "isinstance" = none) (ha : PE X a (tD C fa))
    (hx1 : starEach [a, .Tuple es k tp] X.env = (false, eval a X.env) :: starEach [.Tuple es k tp] X.env := by rfl) (hx2 : starEach [.Tuple es k tp] X.env = (false, eval (.Tuple es k tp) X.env) :: starEach [] X.env := by rfl) (hpl : (backTo pos (starEach [.Tuple es k tp] X.env)).any (·.1) = false := by rfl) :
    PE X (.Call (.Name "isinstance" p) [a, .Tuple es k tp] [] pos) (tD C (isTD ts fa)) := by
  have q := pe_callB (X := X) (x := "isinstance") (p := p) (pos := pos) call_isiT hg hm (by decide +kernel) (pa_cons (qz ha) (pa_cons (pe_tup (x1 := k) (pos := tp) hes) pa_nil hx2) hx1) (by decide) (by decide) hx1 hpl
  rw [ft.k] at q
  refine PE.weak q fun σ H Q ⟨F, env, I, h⟩ => ⟨F, env, I, (Fin.bnd h).imp fun s e F1 H1 I1 s1 h1 x rx => ht.ta σ H1 _ ⟨by rw [List.length_map]; exact hl, fun tp ntp => ?_⟩⟩
  cases eg : isiAny s.d ts with
  | none => simp only [eg] at h1; exact h1.elim
  | some b =>
    simp only [eg] at h1
    have sF := I1.same (o := .tup (ts.map V.ty)) ntp
    have I2 := I1.alloc (o := .tup (ts.map V.ty)) ntp
    obtain ⟨u, h2, h3⟩ := kit_any ((rx.mono sF).mono I2.fh) hn eg
    exact ⟨x, tp, _, u, ts.map Value.type, b, rfl, upd_same, clsTys ts, h2, h3, h1 _ _ I2 sF _ (show Rep C.K C.mg _ _ _ from rBl)⟩
end
end Dd

namespace Dd
open PySem PySem.Spec PyProof.Rows L2
/-! ### calls by keywords -/
structure HasK (K : PySem.W.Frag) (mg : Str → Option Value) (x : Str) (st : Stmt) (kws : List (Str × V)) : Prop where
  ex : ∃ f fd, FunD K x x (defArgs st) (defBody st) (defScope st) [] kws f fd ∧ mg x = some (.ref f)
structure OkK (P : Program) (w : World) (K : PySem.W.Frag) (mg : Str → Option Value) (base : Heap) (C : CXT) (x : Str) (st : Stmt) (kws : List (Str × V)) (k : Nat) (ps : List Str) (sp : Sp) : Prop where
  ex : ∃ f fd, FunD K x x (defArgs st) (defBody st) (defScope st) [] kws f fd ∧ FnOk P w K mg base C k f fd ps sp ∧ mg x = some (.ref f)
theorem funD {K : PySem.W.Frag} {x : Str} {st : Stmt} {f : Addr} {fd : FuncData} (F : Fun K x x st f fd) : FunD K x x (defArgs st) (defBody st) (defScope st) [] [] f fd := by
  obtain ⟨oc, od, kV, doc, pm, an, cdv, ct, osl, e, lk, hcd⟩ := F.ex
  exact ⟨⟨oc, od, .none, kV, doc, pm, an, cdv, ct, osl, e, lk, hcd, .inl ⟨rfl, rfl⟩, .inl rfl⟩, F.kp⟩
theorem Ok.toK {P : Program} {w : World} {K : PySem.W.Frag} {mg : Str → Option Value} {base : Heap} {C : CXT} {x : Str} {st : Stmt} {k : Nat} {ps : List Str} {sp : Sp} (O : Ok P w K mg base C x st k ps sp) : OkK P w K mg base C x st [] k ps sp := by
  obtain ⟨f, fd, F, G, m, _⟩ := O
  exact ⟨f, fd, funD F, G, m⟩
/-- where a parameter's value comes from: by place, by name, a default -/
inductive Src where
  | a (i : Nat)
  | b (i : Nat)
  | c (i : Nat)
def Src.get {α : Type} (as bs cs : List α) : Src → Option α
  | .a i => as[i]?
  | .b i => bs[i]?
  | .c i => cs[i]?
def pick (sel : List Src) {α : Type} (as bs cs : List α) : List α := sel.filterMap (Src.get as bs cs)
def Src.rng (n m k : Nat) : Src → Bool
  | .a i => decide (i < n)
  | .b i => decide (i < m)
  | .c i => decide (i < k)
theorem paired_get {α β : Type} {r : α → β → Prop} {as : List α} {bs : List β} (h : Paired r as bs) : ∀ i : Nat, (as[i]? = none ∧ bs[i]? = none) ∨ ∃ a b, as[i]? = some a ∧ bs[i]? = some b ∧ r a b := by
  induction h with
  | nil => exact fun i => .inl ⟨by simp, by simp⟩
  | cons h _ ih =>
    intro i
    cases i with
    | zero => exact .inr ⟨_, _, rfl, rfl, h⟩
    | succ i => simpa using ih i
theorem pick_rel {α β : Type} {r : α → β → Prop} {as bs cs : List α} {as' bs' cs' : List β} (h1 : Paired r as as') (h2 : Paired r bs bs') (h3 : Paired r cs cs') : ∀ sel : List Src, Paired r (pick sel as bs cs) (pick sel as' bs' cs')
  | [] => .nil
  | s :: sel => by
    have ih := pick_rel h1 h2 h3 sel
    unfold pick at ih ⊢
    rw [List.filterMap_cons, List.filterMap_cons]
    have q : (Src.get as bs cs s = none ∧ Src.get as' bs' cs' s = none) ∨ ∃ a b, Src.get as bs cs s = some a ∧ Src.get as' bs' cs' s = some b ∧ r a b := by
      cases s with
      | a i => exact paired_get h1 i
      | b i => exact paired_get h2 i
      | c i => exact paired_get h3 i
    rcases q with ⟨e1, e2⟩ | ⟨a, b, e1, e2, hr⟩
    · rw [e1, e2]; exact ih
    · rw [e1, e2]; exact .cons hr ih
theorem pick_len {α : Type} {as bs cs : List α} {n m k : Nat} (h1 : as.length = n) (h2 : bs.length = m) (h3 : cs.length = k) : ∀ {sel : List Src}, sel.all (Src.rng n m k) = true → (pick sel as bs cs).length = sel.length
  | [], _ => rfl
  | s :: sel, h => by
    rw [List.all_cons, Bool.and_eq_true] at h
    have ih := pick_len h1 h2 h3 h.2
    unfold pick at ih ⊢
    have q : ∃ a, Src.get as bs cs s = some a := by
      cases s with
      | a i => exact ⟨_, List.getElem?_eq_getElem (by rw [h1]; exact of_decide_eq_true h.1)⟩
      | b i => exact ⟨_, List.getElem?_eq_getElem (by rw [h2]; exact of_decide_eq_true h.1)⟩
      | c i => exact ⟨_, List.getElem?_eq_getElem (by rw [h3]; exact of_decide_eq_true h.1)⟩
    obtain ⟨a, e⟩ := q
    rw [List.filterMap_cons, e]
    simp [ih]
/-- how a call binds: n by place, ks by name, ms lacking -/
structure Shape (x : Str) (st : Stmt) (kws : List (Str × V)) (ps : List Str) (n : Nat) (ks : List Str) (ms : List (Str × V)) (sel : List Src) : Prop where
  sub : ∀ q ∈ ms, q ∈ kws
  rng : sel.all (Src.rng n ks.length ms.length) = true
  len : sel.length = ps.length
  to : ∀ (kV doc pm : Value) (an : Option Addr) (cdv ct : Value) (us ws ds : List Value), us.length = n → ws.length = ks.length → ds.length = ms.length → (∀ D, ms ≠ [] → kV = .ref D → KwChain D ((ms.map (·.1)).zip ds) (bindArgs (PySem.W.fnOf x x (defArgs st) (defBody st) (defScope st) .none (.ref D) doc pm an cdv ct) ⟨us, ks.zip ws⟩) (ps.zip (pick sel us ws ds))) ∧
    (ms = [] → bindArgs (PySem.W.fnOf x x (defArgs st) (defBody st) (defScope st) .none kV doc pm an cdv ct) ⟨us, ks.zip ws⟩ = pure (ps.zip (pick sel us ws ds)))
theorem paired_len {α β : Type} {r : α → β → Prop} {as : List α} {bs : List β} (h : Paired r as bs) : as.length = bs.length := by
  induction h with
  | nil => rfl
  | cons _ _ ih => simp [ih]
theorem Shape.kbn {K : PySem.W.Frag} {x : Str} {st : Stmt} {kws : List (Str × V)} {ps : List Str} {n : Nat} {ks : List Str} {ms : List (Str × V)} {sel : List Src} {f : Addr} {fd : FuncData} (S : Shape x st kws ps n ks ms sel) (F : FunD K x x (defArgs st) (defBody st) (defScope st) [] kws f fd) :
    ∃ ds : List Value, ds.length = ms.length ∧ Vals (ms.map (·.2)) ds ∧ ∀ (s : Shared) (us ws : List Value), K.In s.heap → us.length = n → ws.length = ks.length → BindsTo s fd ⟨us, ks.zip ws⟩ (ps.zip (pick sel us ws ds)) := by
  obtain ⟨oc, od, dV, kV, doc, pm, an, cdv, ct, osl, rfl, lk, hcd, hD, hK⟩ := F.ex
  rcases hD with ⟨_, rfl⟩ | ⟨e, _⟩
  · by_cases hm : ms = []
    · subst hm
      refine ⟨[], rfl, .nil, fun s us ws X h1 h2 => .of_eq ((S.to kV doc pm an cdv ct us ws [] h1 h2 rfl).2 rfl)⟩
    · rcases hK with e | ⟨D, rfl, hq⟩
      · subst e
        cases ms with
        | nil => exact absurd rfl hm
        | cons q r => exact absurd (S.sub q (by simp)) (by simp)
      · obtain ⟨ds, hl, rk, hks⟩ := kwd_vals (fun q h => hq q (S.sub q h))
        exact ⟨ds, hl, rk, fun s us ws X h1 h2 => BindsTo.of_looks fun M => KwChain.looks X hks ((S.to _ doc pm an cdv ct us ws ds h1 h2 hl).1 D hm rfl)⟩
  · exact absurd rfl e
/-- f(e, .., k = v, ..); dfs: the lacking ones' data -/
def callKD (g : DF) (sel : List Src) (dfs : List D) (fs kfs : List DE) : DE := fun env => (argsD fs env).bind fun p => (argsD kfs p.2).bind fun q => match g (pick sel p.1 q.1 dfs) with
  | .ok r => .ok (r.1, q.2)
  | .er c x _ => .er c x q.2
  | .no => .no
theorem repL_paired {K : PySem.W.Frag} {mg : Str → Option Value} {H : Hp} : ∀ {ds : List D} {vs : List V}, RepL K mg H ds vs → Paired (fun d v => Rep K mg H d v) ds vs
  | [], vs, h => by rw [h.nil]; exact .nil
  | d :: ds, vs, h => by
    obtain ⟨x, r, rfl, h1, h2⟩ := h.cons
    exact .cons h1 (repL_paired h2)
theorem paired_repL {K : PySem.W.Frag} {mg : Str → Option Value} {H : Hp} : ∀ {ds : List D} {vs : List V}, Paired (fun d v => Rep K mg H d v) ds vs → RepL K mg H ds vs
  | _, _, .nil => repNil
  | _, _, .cons h1 h2 => repCons h1 (paired_repL h2)
section
variable {X : Cx} {C : Cd} {x : Str} {st : Stmt} {ps ks : List Str} {k n : Nat} {e : Expr} {es : List Expr} {kws : List Keyword} {p pos : Pos} {g : DF} {fs kfs : List DE} {dws ms : List (Str × V)} {sel : List Src} {dfs : List D}
theorem t_callK {σ : L2.St} {H : Hp} {Q : VK} {sp : Sp} {E : XK} (S : Shape x st dws ps n ks ms sel) (hn : fs.length = n) (hk : kfs.length = ks.length) (hdf : ∀ F, RepL C.K C.mg F dfs (ms.map (·.2)))
    (hsp : ∀ F H env (vs : List V) ds, In C F H σ env → RepL C.K C.mg F ds vs → vs.length = ps.length → (match g ds with
      | .ok p => ∀ v F' H', Ext F H F' H' → ResO C.K C.mg F' H' H p.1 v → Q v H'
      | .er c fs _ => C.rz = true ∧ ∀ x F' H', Ext F H F' H' → ErO C.K C.mg F' fs x → C.W (.ref (clsA C.mg c)) x σ H'
      | .no => False) → sp vs H Q E) : tD C (callKD g sel dfs fs kfs) σ H Q → tDA C fs σ H fun vs H1 => tDA C kfs σ H1 fun zs H2 => vs.length = n ∧ zs.length = ks.length ∧ sp (pick sel vs zs (ms.map (·.2))) H2 Q E := fun ⟨F, env, I, h⟩ => ⟨F, env, I, by
  unfold callKD at h
  cases ea : argsD fs env with
  | no => rw [ea] at h; exact h
  | er c fs z => rw [ea] at h; exact h
  | ok p =>
    rw [ea] at h
    intro F1 H1 I1 s1 vs rv
    simp only [R.bind_ok] at h
    refine ⟨F1, p.2, I1, ?_⟩
    cases eb : argsD kfs p.2 with
    | no => rw [eb] at h; exact h.elim
    | er c fs z => rw [eb] at h; exact Fin.le s1 h
    | ok q =>
      rw [eb] at h
      intro F2 H2 I2 s2 zs rz
      have l1 : vs.length = n := by rw [rv.len, argsD_len ea]; exact hn
      have l2 : zs.length = ks.length := by rw [rz.len, argsD_len eb]; exact hk
      refine ⟨l1, l2, hsp F2 H2 q.2 _ (pick sel p.1 q.1 dfs) I2 (paired_repL (pick_rel (repL_paired (rv.mono s2)) (repL_paired rz) (repL_paired (hdf F2)) sel)) ((pick_len l1 l2 (by rw [List.length_map]) S.rng).trans S.len) ?_⟩
      simp only [R.bind_ok] at h
      cases eg : g (pick sel p.1 q.1 dfs) with
      | no => simp only [eg] at h; exact h.elim
      | er c fs z => simp only [eg] at h; exact ⟨h.1, fun x F' H' xt er => h.2 x F' H' (I2.call xt) ((s1.trans s2).trans xt.ff) er⟩
      | ok r =>
        simp only [eg] at h
        exact fun v F' H' xt rr => h F' H' (I2.call xt) ((s1.trans s2).trans xt.ff) v (I2.resO rr)⟩
theorem kbnS {K : PySem.W.Frag} {f : Addr} {fd : FuncData} (S : Shape x st dws ps n ks ms sel) (F : FunD K x x (defArgs st) (defBody st) (defScope st) [] dws f fd) : ∃ ds : List Value, KBn K fd ps n ks (fun us ws => pick sel us ws ds) (fun vs zs => pick sel vs zs (ms.map (·.2))) := by
  obtain ⟨ds, hl, rd, hb⟩ := S.kbn F
  exact ⟨ds, hb, fun r1 r2 => pick_rel r1 r2 rd sel⟩
theorem hsp0 {σ : L2.St} {Q : VK} {E : XK} (hz : C.rz = false) : ∀ F H env (vs : List V) ds, In C F H σ env → RepL C.K C.mg F ds vs → vs.length = ps.length → (match g ds with
      | .ok p => ∀ v F' H', Ext F H F' H' → ResO C.K C.mg F' H' H p.1 v → Q v H'
      | .er c fs _ => C.rz = true ∧ ∀ x F' H', Ext F H F' H' → ErO C.K C.mg F' fs x → C.W (.ref (clsA C.mg c)) x σ H'
      | .no => False) → sp0 C.K C.mg ps.length g vs H Q E := fun F H env vs ds I r hl h => by
  refine ⟨hl, F, ds, I.fh, r, ?_⟩
  cases e : g ds with
  | ok p => simp only [e] at h; exact h
  | er c fs z => simp only [e] at h; have h1 := h.1; rw [hz] at h1; cases h1
  | no => simp only [e] at h
theorem hspX {σ : L2.St} {Q : VK} : ∀ F H env (vs : List V) ds, In C F H σ env → RepL C.K C.mg F ds vs → vs.length = ps.length → (match g ds with
      | .ok p => ∀ v F' H', Ext F H F' H' → ResO C.K C.mg F' H' H p.1 v → Q v H'
      | .er c fs _ => C.rz = true ∧ ∀ x F' H', Ext F H F' H' → ErO C.K C.mg F' fs x → C.W (.ref (clsA C.mg c)) x σ H'
      | .no => False) → spP C.K C.mg ps.length g vs H Q (WE C.W σ) := fun F H env vs ds I r hl h => by
  refine ⟨hl, F, ds, I.fh, r, ?_⟩
  cases e : g ds with
  | ok p => simp only [e] at h; exact h
  | er c fs z => simp only [e] at h; exact h.2
  | no => simp only [e] at h
/-- a call by places and names, nothing raised -/
theorem qe_callK (ft : Fit X C) (hz : C.rz = false) (O : OkK X.prog X.w X.K X.mg X.base CX0 x st dws k ps (sp0 X.K X.mg ps.length g)) (S : Shape x st dws ps n ks ms sel) (hr : Room k X.A) (hg : Gl X x) (ha : PA X (e :: es) (tDA C fs)) (hkw : PK X kws (tDA C kfs)) (hdf : ∀ F, RepL X.K X.mg F dfs (ms.map (·.2))) (hn : fs.length = n := by rfl) (hk : kfs.length = ks.length := by rfl)
    (hall : (backToKw pos (keywordEach kws X.env)).all (·.1.isSome) = true := by rfl) (hks : (backToKw pos (keywordEach kws X.env)).filterMap (·.1) = ks := by rfl)
    (hdb : (x == ("__debug__" : Str)) = false := by decide) (he : starEach (e :: es) X.env = (false, eval e X.env) :: starEach es X.env := by rfl)
    (hpl : ((backTo pos (starEach (e :: es) X.env)).any (·.1) || (backToKw pos (keywordEach kws X.env)).any (·.1.isNone)) = false := by rfl) : PE X (.Call (.Name x p) (e :: es) kws pos) (tD C (callKD g sel dfs fs kfs)) := by
  rw [ft.k, ft.m] at hdf
  obtain ⟨f, fd, F, G, m⟩ := O
  obtain ⟨ds, kb⟩ := kbnS S F
  refine PE.weak (pe_callN G hr hg m F.kp kb pass0 ha hkw hall hks hdb he hpl) fun σ H Q h => ?_
  have q := t_callK (E := E0) S hn hk hdf (hsp0 hz) h
  rw [← ft.k, ← ft.m] at q
  exact q
/-- f(k = v, ..) -/
theorem qe_callK0 (ft : Fit X C) (hz : C.rz = false) (O : OkK X.prog X.w X.K X.mg X.base CX0 x st dws k ps (sp0 X.K X.mg ps.length g)) (S : Shape x st dws ps 0 ks ms sel) (hr : Room k X.A) (hg : Gl X x) (hkw : PK X kws (tDA C kfs)) (hdf : ∀ F, RepL X.K X.mg F dfs (ms.map (·.2))) (hk : kfs.length = ks.length := by rfl)
    (hall : (backToKw pos (keywordEach kws X.env)).all (·.1.isSome) = true := by rfl) (hks : (backToKw pos (keywordEach kws X.env)).filterMap (·.1) = ks := by rfl) (hdb : (x == ("__debug__" : Str)) = false := by decide)
    (hpl : ((backTo pos (starEach [] X.env)).any (·.1) || (backToKw pos (keywordEach kws X.env)).any (·.1.isNone)) = false := by rfl) : PE X (.Call (.Name x p) [] kws pos) (tD C (callKD g sel dfs [] kfs)) := by
  rw [ft.k, ft.m] at hdf
  obtain ⟨f, fd, F, G, m⟩ := O
  obtain ⟨ds, kb⟩ := kbnS S F
  refine ⟨fun pins s σ H Q I h0 => ?_⟩
  have q := t_callK (E := E0) S (fs := []) rfl hk hdf (hsp0 hz) h0
  rw [← ft.k, ← ft.m] at q
  have q := ta_nil q
  refine wpAny_Call_Name_kw (ld_glob I hg m ?_ hdb)
  refine PySem.W.callWith_KW0 (h₀ := X.base) I.ok.mod.kin F.kp hall ?_ hpl
  refine thn (hkw.run pos pins s σ H _ I q) fun ws s2 ⟨zs, H2, I2, rz, l1, l2, q2⟩ => ⟨I2.kIn, ?_⟩
  rw [hks]
  exact run_fnN (us := []) (vs := []) G hr kb pass0 I2 .nil rz rfl l2 q2
/-- the same where what is raised is taken -/
theorem run_fnNS {CX : CXT} {sp : Sp} {W : WX} {f : Addr} {fd : FuncData} {gg : List Value → List Value → List Value} {gV : List V → List V → List V} {pins : List (Addr × Obj)} {σ : L2.St} {H : Hp} {s : Shared} {Q : VK} {us ws : List Value} {vs zs : List V} (F : FnOk X.prog X.w X.K X.mg X.base CX k f fd ps sp) (hr : Room k X.A) (hb : KBn X.K fd ps n ks gg gV) (hx : PassesAt CX X σ (WE W σ))
    (I : Inv X pins σ H s) (r : Vals vs us) (rz : Vals zs ws) (l1 : vs.length = n) (l2 : zs.length = ks.length) (h : sp (gV vs zs) H Q (WE W σ)) : wpAny (model X.prog X.w) X.A (call (.ref f) us (ks.zip ws)) (EP X pins σ Q) X.xe s := by
  have r2 := hb.rel r rz
  refine wpAny_call (codeAny_mono (F.run X.A X.stack s H ⟨us, ks.zip ws⟩ (gg us ws) (gV vs zs) Q (WE W σ) hr I.env0 (hb.to s us ws I.kIn (r.length.symm.trans l1) (rz.length.symm.trans l2)) r2 h) fun r s' hq => ?_)
  cases r with
  | error e => exact hx pins H s e s' I hq
  | ok fl =>
    cases fl with
    | ret u => exact I.after hq
    | next => exact False.elim hq
    | brk => exact False.elim hq
    | cont => exact False.elim hq
theorem qe_callKX (ft : Fit X C) (tk : Takes X C.W) (O : OkK X.prog X.w X.K X.mg X.base (L2.CX X.prog X.w) x st dws k ps (spP X.K X.mg ps.length g)) (S : Shape x st dws ps n ks ms sel) (hr : Room k X.A) (hg : Gl X x) (ha : PA X (e :: es) (tDA C fs)) (hkw : PK X kws (tDA C kfs)) (hdf : ∀ F, RepL X.K X.mg F dfs (ms.map (·.2))) (hn : fs.length = n := by rfl) (hk : kfs.length = ks.length := by rfl)
    (hall : (backToKw pos (keywordEach kws X.env)).all (·.1.isSome) = true := by rfl) (hks : (backToKw pos (keywordEach kws X.env)).filterMap (·.1) = ks := by rfl)
    (hdb : (x == ("__debug__" : Str)) = false := by decide) (he : starEach (e :: es) X.env = (false, eval e X.env) :: starEach es X.env := by rfl)
    (hpl : ((backTo pos (starEach (e :: es) X.env)).any (·.1) || (backToKw pos (keywordEach kws X.env)).any (·.1.isNone)) = false := by rfl) : PE X (.Call (.Name x p) (e :: es) kws pos) (tD C (callKD g sel dfs fs kfs)) := by
  rw [ft.k, ft.m] at hdf
  obtain ⟨f, fd, F, G, m⟩ := O
  obtain ⟨ds, kb⟩ := kbnS S F
  refine ⟨fun pins s σ H Q I h0 => ?_⟩
  have q := t_callK S hn hk hdf hspX h0
  rw [← ft.k, ← ft.m] at q
  refine wpAny_Call_Name_kw (ld_glob I hg m ?_ hdb)
  refine PySem.W.callWith_KW (h₀ := X.base) I.ok.mod.kin F.kp hall (thn (ha.run pos pins s σ H _ I q) fun us s1 ⟨vs, H1, I1, r, q⟩ => ?_) hpl he
  refine thn (hkw.run pos pins s1 σ H1 _ I1 q) fun ws s2 ⟨zs, H2, I2, rz, l1, l2, q2⟩ => ⟨I2.kIn, ?_⟩
  rw [hks]
  exact run_fnNS G hr kb (passAt tk σ) I2 r rz l1 l2 q2
theorem qe_callKX0 (ft : Fit X C) (tk : Takes X C.W) (O : OkK X.prog X.w X.K X.mg X.base (L2.CX X.prog X.w) x st dws k ps (spP X.K X.mg ps.length g)) (S : Shape x st dws ps 0 ks ms sel) (hr : Room k X.A) (hg : Gl X x) (hkw : PK X kws (tDA C kfs)) (hdf : ∀ F, RepL X.K X.mg F dfs (ms.map (·.2))) (hk : kfs.length = ks.length := by rfl)
    (hall : (backToKw pos (keywordEach kws X.env)).all (·.1.isSome) = true := by rfl) (hks : (backToKw pos (keywordEach kws X.env)).filterMap (·.1) = ks := by rfl) (hdb : (x == ("__debug__" : Str)) = false := by decide)
    (hpl : ((backTo pos (starEach [] X.env)).any (·.1) || (backToKw pos (keywordEach kws X.env)).any (·.1.isNone)) = false := by rfl) : PE X (.Call (.Name x p) [] kws pos) (tD C (callKD g sel dfs [] kfs)) := by
  rw [ft.k, ft.m] at hdf
  obtain ⟨f, fd, F, G, m⟩ := O
  obtain ⟨ds, kb⟩ := kbnS S F
  refine ⟨fun pins s σ H Q I h0 => ?_⟩
  have q := t_callK S (fs := []) rfl hk hdf hspX h0
  rw [← ft.k, ← ft.m] at q
  have q := ta_nil q
  refine wpAny_Call_Name_kw (ld_glob I hg m ?_ hdb)
  refine PySem.W.callWith_KW0 (h₀ := X.base) I.ok.mod.kin F.kp hall ?_ hpl
  refine thn (hkw.run pos pins s σ H _ I q) fun ws s2 ⟨zs, H2, I2, rz, l1, l2, q2⟩ => ⟨I2.kIn, ?_⟩
  rw [hks]
  exact run_fnNS (us := []) (vs := []) G hr kb (passAt tk σ) I2 .nil rz rfl l2 q2
end
section
variable {P : Program} {w : World} {K : PySem.W.Frag} {mg : Str → Option Value} {base : Heap} {x : Str} {st : Stmt} {ps N : List Str} {k : Nat} {g : DS} {kws : List (Str × V)}
theorem spBody0 {H : Hp} {vs : List V} {Q : VK} {E : XK} (h : sp0 K mg ps.length (bodyF N.length g) vs H Q E) : ∃ F, ∀ {X : Cx} {ss : List Stmt}, PSs X ss (tDS ⟨K, mg, F, H, fun _ => False, W0, 0, "", false⟩ g) → ∃ t, PSs X ss t ∧ t { nx := fun _ H' => Q .non H', rt := Q } (L2.start N vs) H := by
  obtain ⟨hl, Fz, ds, sm, r, h⟩ := h
  refine ⟨Fz, fun {X ss} hp => ⟨_, hp, Fz, _, In.start sm r, ?_⟩⟩
  unfold bodyF at h
  cases e : g (env0 N.length ds) with
  | no => rw [e] at h; exact h
  | er c fs z => rw [e] at h; exact h.elim
  | ok o =>
    rw [e] at h
    cases o with
    | nx z => exact fun σ F' H' I s => h _ F' H' (I.ext (N := N)) (show Rep K mg F' .non .non from rNon)
    | rt s z => exact fun v σ F' H' I _ r => h _ F' H' (I.ext (N := N)) r.out
    | bk z => exact h.elim
    | ct z => exact h.elim
theorem spBodyX {H : Hp} {vs : List V} {Q : VK} {E : XK} (h : spP K mg ps.length (bodyF N.length g) vs H Q E) : ∃ F, ∀ {X : Cx} {ss : List Stmt}, PSs X ss (tDS ⟨K, mg, F, H, fun _ => False, WD E, 0, "", true⟩ g) → ∃ t, PSs X ss t ∧ t { nx := fun _ H' => Q .non H', rt := Q } (L2.start N vs) H := by
  obtain ⟨hl, Fz, ds, sm, r, h⟩ := h
  refine ⟨Fz, fun {X ss} hp => ⟨_, hp, Fz, _, In.start sm r, ?_⟩⟩
  unfold bodyF at h
  cases e : g (env0 N.length ds) with
  | no => rw [e] at h; exact h
  | er c fs z => rw [e] at h; exact ⟨rfl, fun x σ F' H' I s k => h x F' H' (I.ext (N := N)) k⟩
  | ok o =>
    rw [e] at h
    cases o with
    | nx z => exact fun σ F' H' I s => h _ F' H' (I.ext (N := N)) (show Rep K mg F' .non .non from rNon)
    | rt s z => exact fun v σ F' H' I _ r => h _ F' H' (I.ext (N := N)) r.out
    | bk z => exact h.elim
    | ct z => exact h.elim
theorem HasK.okD (D : HasK K mg x st kws) (S : FnScope N ps (defScope st))
    (hb : ∀ (f : Addr) (cdv : Value) (A : Around) (outer : List Env) (s : Shared) (H : Hp) (E : XK) (F : Hp), Room k (A.deeper (envOfC x (defScope st) s.heap.objs.size f cdv)) → Fit (cxOf CX0 P w K mg base N x (defScope st) f cdv A outer s H E).nox ⟨K, mg, F, H, fun _ => False, W0, 0, "", false⟩ →
      PSs (cxOf CX0 P w K mg base N x (defScope st) f cdv A outer s H E).nox (defBody st) (tDS ⟨K, mg, F, H, fun _ => False, W0, 0, "", false⟩ g)) : OkK P w K mg base CX0 x st kws (k + 1) ps (sp0 K mg ps.length (bodyF N.length g)) := by
  obtain ⟨f, fd, F, gl⟩ := D
  refine ⟨f, fd, F, F.ok S (fun vs H Q E h => h.1) (fun cdv A outer s H vs Q E hr h => ?_), gl⟩
  obtain ⟨Fz, q⟩ := spBody0 h
  obtain ⟨t, h1, h2⟩ := q (hb f cdv A outer s H E Fz hr ⟨rfl, rfl⟩)
  exact ⟨t, PSs.nox h1, h2⟩
theorem HasK.okDX (D : HasK K mg x st kws) (S : FnScope N ps (defScope st))
    (hb : ∀ (f : Addr) (cdv : Value) (A : Around) (outer : List Env) (s : Shared) (H : Hp) (E : XK) (F : Hp), Room k (A.deeper (envOfC x (defScope st) s.heap.objs.size f cdv)) → Fit (cxOf (L2.CX P w) P w K mg base N x (defScope st) f cdv A outer s H E) ⟨K, mg, F, H, fun _ => False, WD E, 0, "", true⟩ →
      PSs (cxOf (L2.CX P w) P w K mg base N x (defScope st) f cdv A outer s H E) (defBody st) (tDS ⟨K, mg, F, H, fun _ => False, WD E, 0, "", true⟩ g)) : OkK P w K mg base (L2.CX P w) x st kws (k + 1) ps (spP K mg ps.length (bodyF N.length g)) := by
  obtain ⟨f, fd, F, gl⟩ := D
  refine ⟨f, fd, F, F.ok S (fun vs H Q E h => h.1) (fun cdv A outer s H vs Q E hr h => ?_), gl⟩
  obtain ⟨Fz, q⟩ := spBodyX h
  exact q (hb f cdv A outer s H E Fz hr ⟨rfl, rfl⟩)
end
end Dd

namespace Dd
open PySem PySem.Spec PyProof.Rows L2
/-! ### what the top leaves -/
structure ErrC (K : PySem.W.Frag) (mg : Str → Option Value) (x : Str) : Prop where
  g : mg x = some (.ref (clsA mg x))
  xi : PySem.W.excIn K (clsA mg x) [.type "ValueError", .type "Exception", .type "BaseException", .type "object"] "ValueError.__new__" = true
  k : PySem.W.keepIn K (.ref (clsA mg x)) = true
  b : PySem.W.subIn K (.ref (clsA mg x)) (.type "BaseException") = some true
  t : PySem.W.typeIn K (.ref (clsA mg x)) = some (.type "type")
  e : ExcC K (clsA mg x)
structure Caught (K : PySem.W.Frag) (mg : Str → Option Value) (x y : Str) : Prop where
  g : mg y = some (.ref (clsA mg y))
  m : PySem.W.exmOne K (.ref (clsA mg x)) (.ref (clsA mg y)) = some true
structure KitC (K : PySem.W.Frag) (mg : Str → Option Value) (x y : Str) (b : Bool) : Prop where
  g : mg y = some (.ref (clsA mg y))
  m : PySem.W.kitOne K (.ref (clsA mg x)) (.ref (clsA mg y)) = some b
def dfA (K : PySem.W.Frag) (mg : Str → Option Value) (x n : Str) : Addr := match mg x with
  | some (.ref f) => (match K.lookup f with
    | some ⟨_, _, .func fd, _⟩ => (match fd.kwdefaults with
      | .ref D => (match PySem.W.nsIn K D n with
        | some (some (.ref a)) => a
        | _ => 0)
      | _ => 0)
    | _ => 0)
  | _ => 0
theorem dfA_of {K : PySem.W.Frag} {mg : Str → Option Value} {x n : Str} {f D a : Addr} {oc : Value} {od : Option Addr} {fd : FuncData} {osl : Array (Option Value)} (h1 : mg x = some (.ref f)) (h2 : K.lookup f = some ⟨oc, od, .func fd, osl⟩) (h3 : fd.kwdefaults = .ref D) (h4 : PySem.W.nsIn K D n = some (some (.ref a))) : dfA K mg x n = a := by
  unfold dfA
  simp only [h1, h2, h3, h4]
theorem has_mk {K : PySem.W.Frag} {mg : Str → Option Value} {x : Str} {st : Stmt} {ps : List Str} {f : Addr} {fd : FuncData} (F : Fun K x x st f fd) (g : mg x = some (.ref f))
    (h : ∀ (kV doc pm : Value) (an : Option Addr) (cdv ct : Value) (us : List Value), us.length = ps.length → bindArgs (PySem.W.fnOf x x (defArgs st) (defBody st) (defScope st) .none kV doc pm an cdv ct) ⟨us, []⟩ = pure (ps.zip us)) : Has K mg x st ps :=
  ⟨f, fd, F, g, F.binds h⟩
theorem hask_mk {K : PySem.W.Frag} {mg : Str → Option Value} {x : Str} {st : Stmt} {kws : List (Str × V)} {f : Addr} {oc : Value} {od an : Option Addr} {osl : Array (Option Value)} {kV doc pm cdv ct : Value} (l : K.lookup f = some ⟨oc, od, .func (PySem.W.fnOf x x (defArgs st) (defBody st) (defScope st) .none kV doc pm an cdv ct), osl⟩)
    (c : PySem.W.codeIn K cdv x = true) (k : PySem.W.keepIn K (.ref f) = true) (g : mg x = some (.ref f)) (hk : KwdV K kV kws) : HasK K mg x st kws := ⟨f, _, ⟨⟨oc, od, .none, kV, doc, pm, an, cdv, ct, osl, rfl, l, c, .inl ⟨rfl, rfl⟩, hk⟩, k⟩, g⟩
theorem kwA_nil {K : PySem.W.Frag} {D : Addr} : ∀ q ∈ ([] : List (Str × V)), ∃ u, PySem.W.nsIn K D q.1 = some (some u) ∧ RelV q.2 u := fun q h => by cases h
theorem kwA_cons {K : PySem.W.Frag} {D : Addr} {n : Str} {v : V} {u : Value} {r : List (Str × V)} (h : PySem.W.nsIn K D n = some (some u)) (e : RelV v u) (t : ∀ q ∈ r, ∃ u, PySem.W.nsIn K D q.1 = some (some u) ∧ RelV q.2 u) :
    ∀ q ∈ (n, v) :: r, ∃ u, PySem.W.nsIn K D q.1 = some (some u) ∧ RelV q.2 u := fun q hq => by
  rcases List.mem_cons.mp hq with rfl | hq
  · exact ⟨u, h, e⟩
  · exact t q hq
/-- a tuple of ints of the written part, as data -/
theorem rep_kTup {K : PySem.W.Frag} {mg : Str → Option Value} {F : Hp} {a : Addr} {o : Obj} {its : Array Value} {n : Nat} {ds : List D} {xs : List V} (l : K.lookup a = some o) (c : o.cls = .type "tuple") (hd : o.data = .seq its n) (hz : its.size ≤ sizeLine) (hv : Vals xs its.toList) (r : RepL K mg F ds xs) : Rep K mg F (.tup ds) (.ref a) := by
  unfold Rep
  exact ⟨a, xs, rfl, .inr ⟨o, its, n, l, c, hd, hz, hv⟩, r⟩
section
variable {X : Cx} {C : Cd} {x : Str} {pos : Pos}
theorem qe_cls (ft : Fit X C) (hg : Gl X x) (g : X.mg x = some (.ref (clsA X.mg x))) (hd : (x == ("__debug__" : Str)) = false := by decide) : PE X (.Name x pos) (tD C (conD (.cls x))) :=
  qe_con (v := .ref (clsA X.mg x)) (fun F => by unfold Rep; rw [ft.m]) (pe_glob (v := .ref (clsA X.mg x)) hg g rfl hd)
def gAddI := gInt (fun _ _ => true) fun i j => .int (i + j)
theorem ok_ipAdd : OpOk C (ipI fun i j => i + j) gAddI := ok_int0 fun _ _ _ => rInt
theorem ok_ipSub : OpOk C (ipI fun i j => i - j) gSub := ok_int0 fun _ _ _ => rInt
end
theorem okLaw {P : Program} {w : World} {K : PySem.W.Frag} {mg : Str → Option Value} {base : Heap} {x : Str} {st : Stmt} {ps N : List Str} {k : Nat} {g : DS} {f : Addr} {fd : FuncData} (D : Fun K x x st f fd) (S : FnScope N ps (defScope st))
    (hb : ∀ (cdv : Value) (A : Around) (outer : List Env) (s : Shared) (H : Hp) (E : XK) (F : Hp), Room k (A.deeper (envOfC x (defScope st) s.heap.objs.size f cdv)) → Fit (cxOf CX0 P w K mg base N x (defScope st) f cdv A outer s H E).nox ⟨K, mg, F, H, fun _ => False, W0, 0, "", false⟩ →
      PSs (cxOf CX0 P w K mg base N x (defScope st) f cdv A outer s H E).nox (defBody st) (tDS ⟨K, mg, F, H, fun _ => False, W0, 0, "", false⟩ g)) : FnOk P w K mg base CX0 (k + 1) f fd ps (sp0 K mg ps.length (bodyF N.length g)) := by
  refine D.ok S (fun vs H Q E h => h.1) (fun cdv A outer s H vs Q E hr h => ?_)
  obtain ⟨Fz, q⟩ := spBody0 h
  exact q (hb cdv A outer s H E Fz hr ⟨rfl, rfl⟩)
/-- g of what a name has now -/
def peekC (g : List D → Option Sl) (i : Nat) : DE := fun env => match env[i]? with
  | some (some s) => (match s.val with
    | some d => (match g [d] with
      | some z => .ok (z, env)
      | none => .no)
    | none => .no)
  | _ => .no
def CaOkH (C : Cd) (r : List V → Hp → VK → Prop) (g : List D → Option Sl) : Prop := ∀ F H σ env v d s (Q : VK), In C F H σ env → Rep C.K C.mg H d v → g [d] = some s →
  (∀ v F' H', In C F' H' σ env → Same F F' → Res C F' H' env σ s v → Q v H') → r [v] H Q
section
variable {X : Cx} {C : Cd}
theorem ok_lenH : CaOkH C (fun xs H Q => ∃ x n, xs = [x] ∧ LenV C.K x H n ∧ Q (.int n) H) gLen := by
  intro F H σ env v d s Q I rx hg k
  unfold gLen at hg
  split at hg
  · rename_i e
    cases e
    cases hg
    obtain ⟨p, xs, rfl, h1, h2⟩ := rx.lst
    exact ⟨_, _, rfl, .inl ⟨xs, .inl (.inl h1), rfl⟩, by rw [h2.len]; exact k _ F H I (.refl _) resInt⟩
  · rename_i e
    cases e
    cases hg
    obtain ⟨p, xs, rfl, h1, h2⟩ := rx.tup
    exact ⟨_, _, rfl, .inr ⟨xs, h1, rfl⟩, by rw [h2.len]; exact k _ F H I (.refl _) resInt⟩
  · rename_i ns e
    cases e
    cases hg
    obtain ⟨p, rfl, h1⟩ := rx.scr
    exact ⟨_, _, rfl, .inl ⟨_, h1, rfl⟩, by rw [List.length_map]; exact k _ F H I (.refl _) resInt⟩
  · rename_i e
    cases e
    split at hg
    · rename_i hz
      cases hg
      rw [rx.str]
      exact ⟨_, _, rfl, ⟨lim_le hz, rfl⟩, k _ F H I (.refl _) resInt⟩
    · cases hg
  · cases hg
theorem qe_peekB {e : Expr} {x : Str} {id : String} {p pos : Pos} {i : Nat} {r : List V → Hp → VK → Prop} {g : List D → Option Sl} (hc : CallR X (.builtin id) r) (ok : CaOkH C r g) (hg : Gl X x) (hm : X.mg x = none) (hv : bootBuiltins x = some (.builtin id)) (ha : PE X e (tVar i)) (hn : x ≠ "__name__" := by decide) (hdb : (x == ("__debug__" : Str)) = false := by decide)
    (hx : starEach [e] X.env = (false, eval e X.env) :: starEach [] X.env := by rfl) (he : starEach [e] X.env = (false, eval e X.env) :: starEach [] X.env := by rfl) (hpl : (backTo pos (starEach [] X.env)).any (·.1) = false := by rfl) : PE X (.Call (.Name x p) [e] [] pos) (tD C (peekC g i)) :=
  PE.weak (pe_callB hc hg hm hv (pa_cons ha pa_nil hx) hn hdb he hpl) fun σ H Q ⟨F, env, I, h⟩ => by
    unfold peekC at h
    cases ei : env[i]? with
    | none => rw [ei] at h; exact h.elim
    | some z =>
      cases z with
      | none => rw [ei] at h; exact h.elim
      | some s =>
        rw [ei] at h
        simp only at h
        cases ev : s.val with
        | none => simp only [ev] at h; exact h.elim
        | some d =>
          simp only [ev] at h
          obtain ⟨v, hv, rv⟩ := I.now ei ev
          cases eg : g [d] with
          | none => simp only [eg] at h; exact h.elim
          | some z => simp only [eg] at h; exact ⟨v, hv, ok F H σ env v d z Q I rv eg fun w F' H' I' s' r' => h F' H' I' s' w r'⟩
end
/-! ### the law's end -/
def spLaw (K : PySem.W.Frag) : Sp := fun vs H Q _ => ∃ (a : Addr) (ns : List Int), vs = [.ref a] ∧ SqL K H a (ns.map V.int) ∧ ns.length ≤ 63 ∧ ∀ H', Q (.bl true) H'
theorem law_end {P : Program} {w : World} {K : PySem.W.Frag} {mg : Str → Option Value} {base : Heap} {k : Nat} {f : Addr} {fd : FuncData} {ps : List Str} {g : DF} (h : FnOk P w K mg base CX0 k f fd ps (sp0 K mg 1 g)) (t : ∀ ns : List Int, ns.length ≤ 63 → ∃ bs, g [.scr ns] = .ok (.frz (.bl true), bs)) : FnOk P w K mg base CX0 k f fd ps (spLaw K) :=
  h.imp fun vs H Q E ⟨a, ns, e, hs, hl, q⟩ => by
    subst e
    obtain ⟨bs, hg⟩ := t ns hl
    refine ⟨rfl, H, [.scr ns], .refl _, repCons (by unfold Rep; exact ⟨a, rfl, hs⟩) repNil, ?_⟩
    rw [hg]
    intro v F' H' x r
    have r : Rep K mg F' (.bl true) v := r
    rw [r.bl]
    exact q H'
end Dd

namespace Dd
open PySem PySem.Spec PyProof.Rows L2
/-! ### what a function over data comes to: Q if it tells, X if it raises -/
def wR {ε α : Type} (r : R ε α) (Q : α → Prop) (X : Str → ε → Prop) : Prop := match r with
  | .ok a => Q a
  | .er c [] e => X c e
  | .er _ _ _ => False
  | .no => False
section
variable {ε α β : Type} {r : R ε α} {Q Q' : α → Prop} {X X' : Str → ε → Prop}
theorem wR.mono (h : wR r Q X) (q : ∀ a, Q a → Q' a) (x : ∀ c e, X c e → X' c e) : wR r Q' X' := by
  cases r with
  | ok a => exact q _ h
  | er c fs e => cases fs with
    | nil => exact x _ _ h
    | cons _ _ => exact h
  | no => exact h
theorem wR.mon (h : wR r Q X) (q : ∀ a, Q a → Q' a) : wR r Q' X := h.mono q fun _ _ x => x
theorem wR.ok (h : wR r Q fun _ _ => False) : ∃ a, r = .ok a ∧ Q a := by
  cases r with
  | ok a => exact ⟨a, rfl, h⟩
  | er c fs e => cases fs <;> exact h.elim
  | no => exact h.elim
theorem wR_ok {a : α} (h : Q a) : wR (R.ok a : R ε α) Q X := h
theorem wR_eq {a : α} (e : r = .ok a) (h : Q a) : wR r Q X := by rw [e]; exact h
theorem wR_bind {k : α → R ε β} {Q : β → Prop} (h : wR r (fun a => wR (k a) Q X) X) : wR (r.bind k) Q X := by
  cases r with
  | ok a => exact h
  | er c fs e => cases fs with
    | nil => exact h
    | cons _ _ => exact h
  | no => exact h
end
section
variable {env : DEnv} {X : Str → DEnv → Prop}
theorem wS_bind {α : Type} {r : R DEnv (α × DEnv)} {k : α × DEnv → R DEnv Out} {Q : Out → Prop} (h : wR r (fun a => wR (k a) Q X) X) : wR (bindS r k) Q X := by
  cases r with
  | ok a => exact h
  | er c fs e => cases fs with
    | nil => exact h
    | cons _ _ => exact h
  | no => exact h
variable {Q : Sl × DEnv → Prop} {f fa fb fc : DE} {d : D}
theorem w_con (h : Q (.frz d, env)) : wR (conD d env) Q X := h
theorem w_name {i : Nat} (e : env[i]? = some (some (.frz d))) (h : Q (.frz d, env)) : wR (nameD i env) Q X := by
  unfold nameD; rw [e]; exact h
theorem w_nameO {i : Nat} (e : env[i]? = some (some (.own d))) (h : Q (.frz d, env.set i (some (.frz d)))) : wR (nameD i env) Q X := by
  unfold nameD; rw [e]; exact h
theorem w_lift1 {g : D → Option Sl} (h : wR (fa env) (fun p => ∃ z, g p.1.d = some z ∧ Q (z, p.2)) X) : wR (lift1 g fa env) Q X :=
  wR_bind (h.mon fun p ⟨z, e, q⟩ => by simp only [e]; exact q)
theorem w_lift2 {g : D → D → Option Sl} (h : wR (fa env) (fun p => wR (fb p.2) (fun q => ∃ z, g p.1.d q.1.d = some z ∧ Q (z, q.2)) X) X) : wR (lift2 g fa fb env) Q X :=
  wR_bind (h.mon fun p h => wR_bind (h.mon fun q ⟨z, e, q⟩ => by simp only [e]; exact q))
theorem w_bool {Q : Bool × DEnv → Prop} (h : wR (f env) (fun p => ∃ b, p.1.d = .bl b ∧ Q (b, p.2)) X) : wR (boolT f env) Q X :=
  wR_bind (h.mon fun p ⟨b, e, q⟩ => by simp only [e]; exact q)
theorem w_andT {g g' : DT} {Q : Bool × DEnv → Prop} (h : wR (g env) (fun p => if p.1 = true then wR (g' p.2) Q X else Q (false, p.2)) X) : wR (andT g g' env) Q X :=
  wR_bind (h.mon fun p h => by obtain ⟨b, e⟩ := p; cases b <;> (simp only [if_true, if_false, Bool.false_eq_true] at h; exact h))
theorem w_orT {g g' : DT} {Q : Bool × DEnv → Prop} (h : wR (g env) (fun p => if p.1 = true then Q (true, p.2) else wR (g' p.2) Q X) X) : wR (orT g g' env) Q X :=
  wR_bind (h.mon fun p h => by obtain ⟨b, e⟩ := p; cases b <;> (simp only [if_true, if_false, Bool.false_eq_true] at h; exact h))
theorem w_notT {g : DT} {Q : Bool × DEnv → Prop} (h : wR (g env) (fun p => Q (!p.1, p.2)) X) : wR (notT g env) Q X := wR_bind (h.mon fun p h => h)
theorem w_andV (h : wR (fa env) (fun p => ∃ b, p.1.d = .bl b ∧ if b = true then wR (fb p.2) Q X else Q (.frz (.bl false), p.2)) X) : wR (andV fa fb env) Q X :=
  wR_bind (h.mon fun p ⟨b, e, q⟩ => by cases b <;> (simp only [e]; simp only [if_true, if_false, Bool.false_eq_true] at q; exact q))
theorem w_orV (h : wR (fa env) (fun p => ∃ b, p.1.d = .bl b ∧ if b = true then Q (.frz (.bl true), p.2) else wR (fb p.2) Q X) X) : wR (orV fa fb env) Q X :=
  wR_bind (h.mon fun p ⟨b, e, q⟩ => by cases b <;> (simp only [e]; simp only [if_true, if_false, Bool.false_eq_true] at q; exact q))
theorem w_notV (h : wR (fa env) (fun p => ∃ b, p.1.d = .bl b ∧ Q (.frz (.bl (!b)), p.2)) X) : wR (notV fa env) Q X :=
  wR_bind (h.mon fun p ⟨b, e, q⟩ => by simp only [e]; exact q)
theorem w_ifV {c : DT} (h : wR (c env) (fun p => if p.1 = true then wR (fa p.2) Q X else wR (fb p.2) Q X) X) : wR (ifV c fa fb env) Q X :=
  wR_bind (h.mon fun p h => by obtain ⟨b, e⟩ := p; cases b <;> (simp only [if_true, if_false, Bool.false_eq_true] at h; exact h))
theorem w_argsNil {Q : List D × DEnv → Prop} (h : Q ([], env)) : wR (argsD [] env) Q X := h
theorem w_argsCons {fs : List DE} {Q : List D × DEnv → Prop} (h : wR (f env) (fun p => wR (argsD fs p.2) (fun q => Q (p.1.d :: q.1, q.2)) X) X) : wR (argsD (f :: fs) env) Q X :=
  wR_bind (h.mon fun p h => wR_bind (h.mon fun q h => h))
theorem w_lst {fs : List DE} (h : wR (argsD fs env) (fun p => Q (.own (.lst p.1), p.2)) X) : wR (lstD fs env) Q X := wR_bind (h.mon fun p h => h)
theorem w_tup {fs : List DE} (h : wR (argsD fs env) (fun p => Q (.frz (.tup p.1), p.2)) X) : wR (tupD fs env) Q X := wR_bind (h.mon fun p h => h)
theorem w_callG {g : List D → Option Sl} {fs : List DE} (h : wR (argsD fs env) (fun p => ∃ z, g p.1 = some z ∧ Q (z, p.2)) X) : wR (callG g fs env) Q X :=
  wR_bind (h.mon fun p ⟨z, e, q⟩ => by simp only [e]; exact q)
theorem w_call {g : DF} {fs : List DE} (h : wR (argsD fs env) (fun p => wR (g p.1) (fun q => Q (q.1, p.2)) (fun c _ => X c p.2)) X) : wR (callD g fs env) Q X :=
  wR_bind (h.mon fun p h => by
    cases e : g p.1 with
    | ok q => simp only [e] at h ⊢; exact h
    | er c fs z =>
      simp only [e] at h ⊢
      cases fs with
      | nil => exact h
      | cons _ _ => exact h
    | no => simp only [e] at h; exact h.elim)
theorem w_callK {g : DF} {sel : List Src} {dfs : List D} {fs kfs : List DE} (h : wR (argsD fs env) (fun p => wR (argsD kfs p.2) (fun q => wR (g (pick sel p.1 q.1 dfs)) (fun r => Q (r.1, q.2)) (fun c _ => X c q.2)) X) X) : wR (callKD g sel dfs fs kfs env) Q X :=
  wR_bind (h.mon fun p h => wR_bind (h.mon fun q h => by
    cases e : g (pick sel p.1 q.1 dfs) with
    | ok q => simp only [e] at h ⊢; exact h
    | er c fs z =>
      simp only [e] at h ⊢
      cases fs with
      | nil => exact h
      | cons _ _ => exact h
    | no => simp only [e] at h; exact h.elim))
theorem w_callB {g : DF} {i : Nat} {fs : List DE} {s0 : Sl} (e0 : env[i]? = some (some s0)) (h : wR (argsD fs env) (fun p => ∃ s, p.2[i]? = some (some s) ∧ s.mut = true ∧ wR (g (s.d :: p.1)) (fun q => ∃ d, q.2 = [d] ∧ Q (q.1, p.2.set i (some (s.put d)))) (fun _ _ => False)) X) : wR (callBD g i fs env) Q X := by
  unfold callBD
  rw [e0]
  refine wR_bind (h.mon fun p ⟨s, e1, ms, h⟩ => ?_)
  obtain ⟨q, e2, d, e3, h⟩ := h.ok
  obtain ⟨q1, q2⟩ := q
  simp only at e3
  subst e3
  simp only [e1, ms, e2]
  exact h
theorem w_ixN {i : Nat} {s0 : Sl} (e0 : env[i]? = some (some s0)) (h : wR (fb env) (fun q => ∃ s d z, q.2[i]? = some (some s) ∧ s.val = some d ∧ gIx d q.1.d = some z ∧ Q (z, q.2)) X) : wR (ixND i fb env) Q X := by
  unfold ixND
  rw [e0]
  exact wR_bind (h.mon fun q ⟨s, d, z, e1, e2, e3, h⟩ => by simp only [e1, e2, e3]; exact h)
theorem w_peek2 {g : D → D → Option Sl} {i : Nat} {s0 : Sl} (e0 : env[i]? = some (some s0)) (h : wR (fb env) (fun q => ∃ s d z, q.2[i]? = some (some s) ∧ s.val = some d ∧ g d q.1.d = some z ∧ Q (z, q.2)) X) : wR (peek2 g i fb env) Q X := by
  unfold peek2
  rw [e0]
  exact wR_bind (h.mon fun q ⟨s, d, z, e1, e2, e3, h⟩ => by simp only [e1, e2, e3]; exact h)
theorem w_peekC {g : List D → Option Sl} {i : Nat} {s : Sl} {d : D} {z : Sl} (e0 : env[i]? = some (some s)) (e1 : s.val = some d) (e2 : g [d] = some z) (h : Q (z, env)) : wR (peekC g i env) Q X := by
  unfold peekC
  rw [e0]
  simp only [e1, e2]
  exact h
theorem w_partN {Q : Option Int × DEnv → Prop} (h : Q (none, env)) : wR (partN env) Q X := h
theorem w_part {Q : Option Int × DEnv → Prop} (h : wR (f env) (fun p => ∃ i, p.1.d = .int i ∧ Q (some i, p.2)) X) : wR (partD f env) Q X :=
  wR_bind (h.mon fun p ⟨b, e, q⟩ => by simp only [e]; exact q)
theorem w_slice {fl fh : DO} (h : wR (fa env) (fun p => wR (fl p.2) (fun q => wR (fh q.2) (fun r => ∃ z, gSl p.1.d q.1 r.1 = some z ∧ Q (z, r.2)) X) X) X) : wR (sliceD fa fl fh env) Q X :=
  wR_bind (h.mon fun p h => wR_bind (h.mon fun q h => wR_bind (h.mon fun r ⟨z, e, h⟩ => by simp only [e]; exact h)))
theorem w_chain {g g' : D → D → Option Sl} (h : wR (fa env) (fun p => wR (fb p.2) (fun q => ∃ b, g p.1.d q.1.d = some (.frz (.bl b)) ∧ if b = true then wR (fc q.2) (fun r => ∃ b, g' q.1.d r.1.d = some (.frz (.bl b)) ∧ Q (.frz (.bl b), r.2)) X else Q (.frz (.bl false), q.2)) X) X) : wR (chainD g g' fa fb fc env) Q X :=
  wR_bind (h.mon fun p h => wR_bind (h.mon fun q ⟨b, e, h⟩ => by
    cases b with
    | true =>
      simp only [e]
      simp only [if_true] at h
      exact wR_bind (h.mon fun r ⟨b, e, h⟩ => by simp only [e]; exact h)
    | false =>
      simp only [e]
      simp only [if_false, Bool.false_eq_true] at h
      exact h))
theorem w_isT {ts : List String} (h : wR (fa env) (fun p => ∃ b, isiAny p.1.d ts = some b ∧ Q (.frz (.bl b), p.2)) X) : wR (isTD ts fa env) Q X :=
  wR_bind (h.mon fun p ⟨b, e, q⟩ => by simp only [e]; exact q)
theorem w_isE {i : Nat} {sub : Str → Option Bool} {c : Str} {b : Bool} (e0 : env[i]? = some (some (.exn c))) (e1 : sub c = some b) (h : Q (.frz (.bl b), env)) : wR (isED i sub env) Q X := by
  unfold isED
  rw [e0]
  simp only [e1]
  exact h
theorem w_mut {g : List D → List D → Option (Sl × List D)} {i : Nat} {fs : List DE} {s0 : Sl} {ds0 : List D} (e0 : env[i]? = some (some s0)) (m0 : s0.mut = true) (l0 : s0.d = .lst ds0) (h : wR (argsD fs env) (fun p => ∃ s ds r ds', p.2[i]? = some (some s) ∧ s.mut = true ∧ s.d = .lst ds ∧ g ds p.1 = some (r, ds') ∧ Q (r, p.2.set i (some (s.put (.lst ds'))))) X) : wR (mutD g i fs env) Q X := by
  unfold mutD
  rw [e0]
  simp only [m0, l0, isL, Bool.and_self, if_true]
  exact wR_bind (h.mon fun p ⟨s, ds, r, ds', e1, e2, e3, e4, h⟩ => by simp only [e1, e2, e3, e4]; exact h)
/-! statements -/
variable {T : Out → Prop} {g g1 g2 : DS}
theorem w_next (h : T (.nx env)) : wR (nextD env) T X := h
theorem w_brk (h : T (.bk env)) : wR (brkD env) T X := h
theorem w_cont (h : T (.ct env)) : wR (contD env) T X := h
def thenS (k : DEnv → Prop) (T : Out → Prop) : Out → Prop
  | .nx e => k e
  | o => T o
theorem w_seq (h : wR (g1 env) (thenS (fun e => wR (g2 e) T X) T) X) : wR (seqD g1 g2 env) T X := by
  unfold seqD
  cases e : g1 env with
  | ok o => rw [e] at h; cases o <;> exact h
  | er c fs z => rw [e] at h; cases fs <;> exact h
  | no => rw [e] at h; exact h
/-- a cut between two statements -/
theorem w_seqI (I : DEnv → Prop) (h : wR (g1 env) (thenS I T) X) (h2 : ∀ e, I e → wR (g2 e) T X) : wR (seqD g1 g2 env) T X :=
  w_seq (h.mon fun o => by cases o <;> first | exact h2 _ | exact id)
theorem w_expr (h : wR (f env) (fun p => T (.nx p.2)) X) : wR (exprD f env) T X := wS_bind (h.mon fun _ h => h)
theorem w_ret (h : wR (f env) (fun p => T (.rt p.1 p.2)) X) : wR (retD f env) T X := wS_bind (h.mon fun _ h => h)
theorem w_retN (h : T (.rt (.frz .non) env)) : wR (retND env) T X := h
theorem w_retName {i : Nat} {d : D} (e : env[i]? = some (some (.frz d))) (h : T (.rt (.frz d) env)) : wR (retNameD i env) T X := by
  unfold retNameD; rw [e]; exact h
theorem w_retOwn {i : Nat} {d : D} (e : env[i]? = some (some (.own d))) (h : T (.rt (.own d) (env.set i none))) : wR (retNameD i env) T X := by
  unfold retNameD; rw [e]; exact h
theorem w_if {c : DT} (h : wR (c env) (fun p => if p.1 = true then wR (g1 p.2) T X else wR (g2 p.2) T X) X) : wR (ifD c g1 g2 env) T X :=
  wS_bind (h.mon fun p h => by obtain ⟨b, e⟩ := p; cases b <;> (simp only [if_true, if_false, Bool.false_eq_true] at h; exact h))
theorem w_set {i : Nat} (h : wR (f env) (fun p => T (.nx (p.2.set i (some p.1)))) X) : wR (setD i f env) T X := wS_bind (h.mon fun _ h => h)
theorem w_asg {gg : DG} (h : wR (f env) (fun p => ∃ e, gg p.1.d p.2 = some e ∧ T (.nx e)) X) : wR (asgD gg f env) T X := wS_bind (h.mon fun p ⟨e, h1, h⟩ => by simp only [h1]; exact h)
theorem w_aug {gg : D → D → Option Sl} {i : Nat} {d : D} (e : env[i]? = some (some (.frz d))) (h : wR (f env) (fun p => ∃ s, gg d p.1.d = some s ∧ T (.nx (p.2.set i (some s)))) X) : wR (augD gg i f env) T X := by
  unfold augD
  rw [e]
  exact wS_bind (h.mon fun p ⟨s, h1, h⟩ => by simp only [h1]; exact h)
theorem w_par {i j : Nat} {fs : List DE} (h : wR (argsD fs env) (fun p => ∃ a b, p.1 = [a, b] ∧ T (.nx ((p.2.set i (some (.frz a))).set j (some (.frz b))))) X) : wR (parD i j fs env) T X :=
  wS_bind (h.mon fun p ⟨a, b, h1, h⟩ => by simp only [h1]; exact h)
theorem w_setIx {i : Nat} {fe fk : DE} (h : wR (fe env) (fun p => (∃ s0, p.2[i]? = some (some s0)) ∧ wR (fk p.2) (fun q => ∃ s ds k j, q.2[i]? = some (some s) ∧ s.mut = true ∧ s.d = .lst ds ∧ q.1.d = .int k ∧ ixN ds.length k = some j ∧ T (.nx (q.2.set i (some (s.put (.lst (ds.set j p.1.d))))))) X) X) : wR (setIxD i fe fk env) T X :=
  wS_bind (h.mon fun p ⟨⟨s0, e0⟩, h⟩ => by
    simp only [e0]
    exact wS_bind (h.mon fun q ⟨s, ds, k, j, e1, e2, e3, e4, e5, h⟩ => by simp only [e1, e2, e3, e4, e5]; exact h))
theorem w_raise {c : Str} (h : X c env) : wR (raiseD c env) T X := h
theorem w_for {fi : DI} {gg : DG} {gb : DS} (h : wR (fi env) (fun p => wR (forD gg gb p.1 p.2) T X) X) : wR (forS fi gg gb env) T X := wS_bind (h.mon fun _ h => h)
theorem w_iterE {Q : List D × DEnv → Prop} (h : wR (f env) (fun p => ∃ ds, iterOf p.1.d = some ds ∧ Q (ds, p.2)) X) : wR (iterE f env) Q X := wR_bind (h.mon fun p ⟨ds, e, h⟩ => by simp only [e]; exact h)
theorem w_iterG {gi : List D → Option (List D)} {fs : List DE} {Q : List D × DEnv → Prop} (h : wR (argsD fs env) (fun p => ∃ ds, gi p.1 = some ds ∧ Q (ds, p.2)) X) : wR (iterG gi fs env) Q X := wR_bind (h.mon fun p ⟨ds, e, h⟩ => by simp only [e]; exact h)
/-- a loop by an invariant -/
def loopT (I : DEnv → Prop) (T : Out → Prop) : Out → Prop
  | .nx e => I e
  | .ct e => I e
  | .bk e => T (.nx e)
  | .rt s e => T (.rt s e)
theorem w_forD {gg : DG} {gb : DS} {ds : List D} (I : Nat → DEnv → Prop) (h0 : I 0 env) (hs : ∀ (i : Nat) d e, ds[i]? = some d → I i e → ∃ e', gg d e = some e' ∧ wR (gb e') (loopT (I (i + 1)) T) X) (hd : ∀ e, I ds.length e → T (.nx e)) : wR (forD gg gb ds env) T X := by
  have key : ∀ (k : Nat) (e : DEnv), k ≤ ds.length → I k e → wR (forD gg gb (ds.drop k) e) T X := by
    intro k
    generalize hm : ds.length - k = m
    induction m generalizing k with
    | zero =>
      intro e hk hi
      have : k = ds.length := by omega
      subst this
      rw [List.drop_length]
      exact hd e hi
    | succ m ih =>
      intro e hk hi
      have hlt : k < ds.length := by omega
      rw [List.drop_eq_getElem_cons hlt]
      obtain ⟨e', h1, h2⟩ := hs k _ e (List.getElem?_eq_getElem hlt) hi
      unfold forD
      simp only [h1]
      cases eb : gb e' with
      | no => rw [eb] at h2; exact h2.elim
      | er c fs z => rw [eb] at h2; cases fs <;> exact h2
      | ok o =>
        rw [eb] at h2
        cases o with
        | nx z => exact ih (k + 1) (by omega) z hlt h2
        | ct z => exact ih (k + 1) (by omega) z hlt h2
        | bk z => exact h2
        | rt s z => exact h2
  simpa using key 0 env (Nat.zero_le _) h0
theorem w_forNil {gg : DG} {gb : DS} (h : T (.nx env)) : wR (forD gg gb [] env) T X := h
theorem w_forCons {gg : DG} {gb : DS} {d : D} {ds : List D} {e : DEnv} (h1 : gg d env = some e) (h2 : wR (gb e) (loopT (fun e => wR (forD gg gb ds e) T X) T) X) : wR (forD gg gb (d :: ds) env) T X := by
  unfold forD
  simp only [h1]
  cases eb : gb e with
  | no => rw [eb] at h2; exact h2.elim
  | er c fs z => rw [eb] at h2; cases fs <;> exact h2
  | ok o => rw [eb] at h2; cases o <;> exact h2
/-- a comprehension by an invariant: what is made, the slots -/
theorem w_lcD {gg : DG} {tt : DT} {te : DE} {vs : List Nat} {ds : List D} {Q : List D × DEnv → Prop} (I : Nat → List D → DEnv → Prop) (h0 : I 0 [] env)
    (hs : ∀ (i : Nat) d acc e, ds[i]? = some d → I i acc e → ∃ e', gg d (lendE e) = some e' ∧ wR (tt e') (fun p => if p.1 = true then wR (te p.2) (fun q => acc.length < lim ∧ I (i + 1) (acc ++ [q.1.d]) (backE e (wipeE q.2 vs))) (fun _ _ => False) else I (i + 1) acc (backE e (wipeE p.2 vs))) (fun _ _ => False))
    (hd : ∀ acc e, I ds.length acc e → Q (acc, e)) : wR (lcD gg tt te vs ds [] env) Q X := by
  have key : ∀ (k : Nat) (acc : List D) (e : DEnv), k ≤ ds.length → I k acc e → wR (lcD gg tt te vs (ds.drop k) acc e) Q X := by
    intro k
    generalize hm : ds.length - k = m
    induction m generalizing k with
    | zero =>
      intro acc e hk hi
      have : k = ds.length := by omega
      subst this
      rw [List.drop_length]
      exact hd acc e hi
    | succ m ih =>
      intro acc e hk hi
      have hlt : k < ds.length := by omega
      rw [List.drop_eq_getElem_cons hlt]
      obtain ⟨e', h1, h2⟩ := hs k _ acc e (List.getElem?_eq_getElem hlt) hi
      unfold lcD
      simp only [h1]
      obtain ⟨p, hp, h2⟩ := h2.ok
      rw [hp]
      simp only [bind0_ok]
      obtain ⟨b, e3⟩ := p
      cases b with
      | true =>
        simp only [if_true] at h2
        obtain ⟨q, hq, hl, h3⟩ := h2.ok
        simp only [hq, bind0_ok, if_pos hl]
        exact ih (k + 1) (by omega) _ _ hlt h3
      | false =>
        have h2 : I (k + 1) acc (backE e (wipeE e3 vs)) := by simpa using h2
        exact ih (k + 1) (by omega) _ _ hlt h2
  simpa using key 0 [] env (Nat.zero_le _) h0
theorem w_comp {fi : DI} {gg : DG} {tt : DT} {te : DE} {vs zs : List Nat} (h : wR (fi env) (fun p => wR (lcD gg tt te vs p.1 [] (wipeE (frzE p.2 zs) vs)) (fun q => Q (.own (.lst q.1), q.2)) (fun _ _ => False)) X) : wR (compD fi gg tt te vs zs env) Q X :=
  wR_bind (h.mon fun p h => by
    obtain ⟨q, e, h⟩ := h.ok
    simp only [e, bind0_ok]
    exact h)
theorem w_yes {Q : Bool × DEnv → Prop} (h : Q (true, env)) : wR (yesT env) Q X := h
theorem w_try {gb gs : DS} {i : Nat} {cl : Str → Bool} (h : wR (gb env) T (fun c e => cl c = true ∧ wR (gs ((noExn e).set i (some (.exn c)))) (fun o => match o with
    | .nx z => T (.nx (noExn (z.set i none)))
    | .bk z => T (.bk (noExn (z.set i none)))
    | .ct z => T (.ct (noExn (z.set i none)))
    | .rt s z => T (.rt s (noExn z))) (fun _ _ => False))) : wR (tryD gb i cl gs env) T X := by
  unfold tryD
  cases e : gb env with
  | no => rw [e] at h; exact h
  | ok o => rw [e] at h; exact h
  | er c fs z =>
    rw [e] at h
    cases fs with
    | cons _ _ => exact h.elim
    | nil =>
      obtain ⟨hc, h⟩ := h
      simp only [hc, if_true]
      obtain ⟨o, eo, h⟩ := h.ok
      rw [eo]
      cases o <;> exact h
end
theorem thenS_nx {k : DEnv → Prop} {T : Out → Prop} {e : DEnv} (h : k e) : thenS k T (.nx e) := h
theorem thenS_rt {k : DEnv → Prop} {T : Out → Prop} {s : Sl} {e : DEnv} (h : T (.rt s e)) : thenS k T (.rt s e) := h
theorem thenS_bk {k : DEnv → Prop} {T : Out → Prop} {e : DEnv} (h : T (.bk e)) : thenS k T (.bk e) := h
theorem thenS_ct {k : DEnv → Prop} {T : Out → Prop} {e : DEnv} (h : T (.ct e)) : thenS k T (.ct e) := h
theorem loopT_nx {k : DEnv → Prop} {T : Out → Prop} {e : DEnv} (h : k e) : loopT k T (.nx e) := h
theorem loopT_ct {k : DEnv → Prop} {T : Out → Prop} {e : DEnv} (h : k e) : loopT k T (.ct e) := h
theorem loopT_rt {k : DEnv → Prop} {T : Out → Prop} {s : Sl} {e : DEnv} (h : T (.rt s e)) : loopT k T (.rt s e) := h
theorem loopT_bk {k : DEnv → Prop} {T : Out → Prop} {e : DEnv} (h : T (.nx e)) : loopT k T (.bk e) := h
theorem dFrz {d : D} : (Sl.frz d).d = d := rfl
theorem dOwn {d : D} : (Sl.own d).d = d := rfl
theorem dBor {d : D} : (Sl.bor d).d = d := rfl
theorem pOwn {d e : D} : (Sl.own d).put e = .own e := rfl
theorem pBor {d e : D} : (Sl.bor d).put e = .bor e := rfl
theorem t_ite {p : Prop} [Decidable p] {A B : Prop} (h1 : p → A) (h2 : ¬ p → B) : if decide p = true then A else B := by
  by_cases h : p
  · rw [if_pos (decide_eq_true h)]; exact h1 h
  · rw [if_neg (fun z => h (of_decide_eq_true z))]; exact h2 h
theorem t_iteN {p : Prop} [Decidable p] {A B : Prop} (h1 : ¬ p → A) (h2 : p → B) : if (!decide p) = true then A else B := by
  by_cases h : p
  · rw [decide_eq_true h, if_neg (by decide)]; exact h2 h
  · rw [decide_eq_false h, if_pos (by decide)]; exact h1 h
/-! operations on ints -/
theorem gMod_ok {i j : Int} (h : 0 < j) : gMod (.int i) (.int j) = some (.frz (.int (i % j))) := by
  show (if decide (0 < j) = true then _ else _) = _
  rw [if_pos (decide_eq_true h)]
theorem gDiv_ok {i j : Int} (h : 0 < j) (h2 : j < 2 ^ 100) : gDiv (.int i) (.int j) = some (.frz (.int (i / j))) := by
  have hl : j.natAbs.log2 < 9000 := Nat.lt_of_lt_of_le (PySem.Flt.log2_lt_of (by decide) (show j.natAbs < 2 ^ 100 by omega)) (by decide)
  show (if divOk j = true then _ else _) = _
  rw [if_pos (by unfold divOk; rw [decide_eq_true h, decide_eq_true hl]; rfl)]
theorem gMul_l {i j : Int} (h : -18446744073709551616 < i) (h2 : i < 18446744073709551616) : gMul (.int i) (.int j) = some (.frz (.int (i * j))) := by
  show (if mulOk i j = true then _ else _) = _
  rw [if_pos (by unfold mulOk; rw [Bool.or_eq_true]; exact .inl (decide_eq_true (.inl ⟨h, h2⟩)))]
theorem gMul_r {i j : Int} (h : -18446744073709551616 < j) (h2 : j < 18446744073709551616) : gMul (.int i) (.int j) = some (.frz (.int (i * j))) := by
  show (if mulOk i j = true then _ else _) = _
  rw [if_pos (by unfold mulOk; rw [Bool.or_eq_true]; exact .inl (decide_eq_true (.inr ⟨h, h2⟩)))]
theorem gPow_ok {i j : Int} (h : 0 ≤ j) (h2 : j ≤ 1000000) (h3 : i.natAbs < 18446744073709551616) : gPow (.int i) (.int j) = some (.frz (.int (i ^ j.toNat))) := by
  show (if powOk i j = true then _ else _) = _
  rw [if_pos (by unfold powOk; rw [decide_eq_true h, decide_eq_true h2, decide_eq_true (show i.natAbs < 2 ^ 64 from h3)]; rfl)]
theorem gAdd_int {i j : Int} : gAdd (.int i) (.int j) = some (.frz (.int (i + j))) := rfl
theorem gSub_int {i j : Int} : gSub (.int i) (.int j) = some (.frz (.int (i - j))) := rfl
theorem gLt_int {i j : Int} : gLt (.int i) (.int j) = some (.frz (.bl (decide (i < j)))) := rfl
theorem gLe_int {i j : Int} : gLe (.int i) (.int j) = some (.frz (.bl (decide (i ≤ j)))) := rfl
theorem gGt_int {i j : Int} : gGt (.int i) (.int j) = some (.frz (.bl (decide (j < i)))) := rfl
theorem gGe_int {i j : Int} : gGe (.int i) (.int j) = some (.frz (.bl (decide (j ≤ i)))) := rfl
theorem gR1_ok {j : Int} (h : -(2 ^ 62) ≤ j) (h2 : j < 2 ^ 62) : gR1 [.int j] = some (rangeL 0 j.toNat) := if_pos ⟨h, h2⟩
theorem gR2_ok {i j : Int} (h : -(2 ^ 62) ≤ i) (h2 : i < 2 ^ 62) (h3 : -(2 ^ 62) ≤ j) (h4 : j < 2 ^ 62) : gR2 [.int i, .int j] = some (rangeL i (j - i).toNat) := if_pos ⟨h, h2, h3, h4⟩
theorem gAdd_str {a b : Str} (h : a.length + b.length ≤ 16000000) : gAdd (.str a) (.str b) = some (.frz (.str (a ++ b))) := if_pos h
theorem gAdd_lst {a b : List D} (h : a.length + b.length ≤ 16000000) : gAdd (.lst a) (.lst b) = some (.own (.lst (a ++ b))) := if_pos h
theorem gSl_str {z : Str} {l u : Option Int} (h : z.length ≤ 16000000) : gSl (.str z) l u = some (.frz (.str (cutS z l u))) := if_pos h
theorem rangeL_get {lo : Int} {n i : Nat} {d : D} (h : (rangeL lo n)[i]? = some d) : i < n ∧ d = .int (lo + i) := by
  unfold rangeL at h
  rw [List.getElem?_map] at h
  cases e : (List.range n)[i]? with
  | none => rw [e] at h; cases h
  | some c =>
    rw [e] at h
    have hi : i < n := by
      have := (List.getElem?_eq_some_iff.mp e).1
      simpa using this
    rw [List.getElem?_range hi] at e
    cases e
    cases h
    exact ⟨hi, rfl⟩
theorem rangeL_len {lo : Int} {n : Nat} : (rangeL lo n).length = n := by simp [rangeL]
theorem gAppend_ok {ds : List D} {e : D} (h : ds.length < 16000000) : gAppend ds [e] = some (.frz .non, ds ++ [e]) := if_pos h
theorem gIx_lst {ds : List D} {r : Int} (h0 : 0 ≤ r) (h1 : r < ds.length) : ∃ d, d ∈ ds ∧ ds[r.toNat]? = some d ∧ gIx (.lst ds) (.int r) = some (.frz d) := by
  have h2 : r.toNat < ds.length := by omega
  refine ⟨ds[r.toNat], List.getElem_mem h2, List.getElem?_eq_getElem h2, ?_⟩
  have : atI ds r = some ds[r.toNat] := by
    unfold atI ixN
    rw [if_pos h0, if_pos h1]
    simp [h2]
  show (atI ds r).map Sl.frz = _
  rw [this]
  rfl
theorem gIx_tup {ds : List D} {r : Int} (h0 : 0 ≤ r) (h1 : r < ds.length) : ∃ d, d ∈ ds ∧ ds[r.toNat]? = some d ∧ gIx (.tup ds) (.int r) = some (.frz d) := by
  have h2 : r.toNat < ds.length := by omega
  refine ⟨ds[r.toNat], List.getElem_mem h2, List.getElem?_eq_getElem h2, ?_⟩
  have : atI ds r = some ds[r.toNat] := by
    unfold atI ixN
    rw [if_pos h0, if_pos h1]
    simp [h2]
  show (atI ds r).map Sl.frz = _
  rw [this]
  rfl
theorem gIx_scr {ns : List Int} {r : Int} (h0 : 0 ≤ r) (h1 : r < ns.length) : ∃ d, d ∈ ns ∧ ns[r.toNat]? = some d ∧ gIx (.scr ns) (.int r) = some (.frz (.int d)) := by
  have h2 : r.toNat < ns.length := by omega
  refine ⟨ns[r.toNat], List.getElem_mem h2, List.getElem?_eq_getElem h2, ?_⟩
  have : atI ns r = some ns[r.toNat] := by
    unfold atI ixN
    rw [if_pos h0, if_pos h1]
    simp [h2]
  show (atI ns r).map (fun i => Sl.frz (.int i)) = _
  rw [this]
  rfl
theorem gIx_str {z : Str} {r : Int} (hz : z.length ≤ lim) (h0 : 0 ≤ r) (h1 : r < z.length) : ∃ c, c ∈ z.cps.toList ∧ gIx (.str z) (.int r) = some (.frz (.str ⟨#[c]⟩)) := by
  have h2 : r.toNat < z.cps.toList.length := by
    show _ < z.cps.size
    have : (z.length : Int) = z.cps.size := rfl
    omega
  refine ⟨z.cps.toList[r.toNat], List.getElem_mem h2, ?_⟩
  have : atI z.cps.toList r = some z.cps.toList[r.toNat] := by
    unfold atI ixN
    rw [if_pos h0, if_pos (by have : (z.length : Int) = z.cps.size := rfl; simp; omega)]
    simp at h2
    simp [h2]
  show (if z.length ≤ lim then (atI z.cps.toList r).map (fun c => Sl.frz (.str ⟨#[c]⟩)) else none) = _
  rw [if_pos hz, this]
  rfl
/-- of a def -/
theorem w_body {n : Nat} {g : DS} {ds : List D} {Q : Sl × List D → Prop} {X : Str → List D → Prop} (h : wR (g (env0 n ds)) (fun o => match o with
    | .rt s _ => Q (s, [])
    | .nx _ => Q (.frz .non, [])
    | _ => False) (fun c _ => X c [])) : wR (bodyF n g ds) Q X := by
  unfold bodyF
  cases e : g (env0 n ds) with
  | no => rw [e] at h; exact h
  | er c fs z => rw [e] at h; cases fs <;> exact h
  | ok o => rw [e] at h; cases o <;> exact h
theorem w_bodyB {n : Nat} {g : DS} {ds : List D} {Q : Sl × List D → Prop} {X : Str → List D → Prop} (h : wR (g (envB n ds)) (fun o => match o with
    | .rt s e => ∃ d, e[0]? = some (some (.bor d)) ∧ Q (s, [d])
    | .nx e => ∃ d, e[0]? = some (some (.bor d)) ∧ Q (.frz .non, [d])
    | _ => False) (fun _ _ => False)) : wR (bodyB n g ds) Q X := by
  unfold bodyB
  obtain ⟨o, e, h⟩ := h.ok
  rw [e]
  cases o with
  | rt s z => obtain ⟨d, e1, h⟩ := h; simp only [outB, e1]; exact h
  | nx z => obtain ⟨d, e1, h⟩ := h; simp only [outB, e1]; exact h
  | bk z => exact h.elim
  | ct z => exact h.elim
end Dd

namespace Dd
open PySem PySem.Spec PyProof.Rows L2
/-! ### data that == compares -/
def Pl (n : Nat) (d : D) : Prop := ∃ p, toPy d = some p ∧ p.canLay0 = true ∧ p.depth ≤ n
def PlL (n : Nat) (ds : List D) : Prop := ∃ ps, toPyL ds = some ps ∧ PyData.canLayAll0 ps = true ∧ PyData.depthAll ps ≤ n
theorem plL {n : Nat} : ∀ {ds : List D}, (∀ d ∈ ds, Pl n d) → PlL n ds
  | [], _ => ⟨[], by unfold toPyL; rfl, by unfold PyData.canLayAll0; rfl, by unfold PyData.depthAll; omega⟩
  | d :: ds, h => by
    obtain ⟨p, e1, c1, d1⟩ := h d (by simp)
    obtain ⟨ps, e2, c2, d2⟩ := plL (ds := ds) fun x hx => h x (by simp [hx])
    refine ⟨p :: ps, by unfold toPyL; rw [e1, e2], by unfold PyData.canLayAll0; rw [c1, c2]; rfl, by unfold PyData.depthAll; omega⟩
theorem Pl.non {n : Nat} : Pl n .non := ⟨_, by unfold toPy; rfl, by unfold PyData.canLay0; rfl, by unfold PyData.depth; omega⟩
theorem Pl.int {n : Nat} {i : Int} : Pl n (.int i) := ⟨_, by unfold toPy; rfl, by unfold PyData.canLay0; rfl, by unfold PyData.depth; omega⟩
theorem Pl.bl {n : Nat} {i : Bool} : Pl n (.bl i) := ⟨_, by unfold toPy; rfl, by unfold PyData.canLay0; rfl, by unfold PyData.depth; omega⟩
theorem Pl.str {n : Nat} {s : Str} (h : PyData.strOk s = true) : Pl n (.str s) := ⟨_, by unfold toPy; rfl, by unfold PyData.canLay0; exact h, by unfold PyData.depth; omega⟩
theorem Pl.lst {n : Nat} {ds : List D} (h : ∀ d ∈ ds, Pl n d) : Pl (n + 1) (.lst ds) := by
  obtain ⟨ps, e, c, d⟩ := plL h
  exact ⟨_, by unfold toPy; rw [e]; rfl, by unfold PyData.canLay0; exact c, by unfold PyData.depth; omega⟩
theorem Pl.tup {n : Nat} {ds : List D} (h : ∀ d ∈ ds, Pl n d) : Pl (n + 1) (.tup ds) := by
  obtain ⟨ps, e, c, d⟩ := plL h
  exact ⟨_, by unfold toPy; rw [e]; rfl, by unfold PyData.canLay0; exact c, by unfold PyData.depth; omega⟩
theorem Pl.mono {n m : Nat} {d : D} (h : Pl n d) (hn : n ≤ m) : Pl m d := by
  obtain ⟨p, a, b, c⟩ := h
  exact ⟨p, a, b, Nat.le_trans c hn⟩
theorem Pl.plain {n : Nat} {d : D} (h : Pl n d) (hn : n ≤ 64) : plain d = true := by
  obtain ⟨p, a, b, c⟩ := h
  unfold Dd.plain
  rw [a]
  show (p.canLay0 && decide (p.depth ≤ 64)) = true
  rw [b, decide_eq_true (Nat.le_trans c hn)]
  rfl
theorem pyEq_refl {d : D} (h : plain d = true) : pyEq d d = true := by
  obtain ⟨p, e, s⟩ := plain_of h
  unfold pyEq
  rw [e]
  exact SeqAt.eqv_refl p (SeqAt.canLay_of_shaped s)
theorem gEq_of {neg : Bool} {d e : D} (h : plain d = true) (h2 : plain e = true) : gEq neg d e = some (.frz (.bl (neg != pyEq d e))) := by
  unfold gEq
  rw [h, h2]
  rfl
theorem gEq_self {neg : Bool} {d : D} (h : plain d = true) : gEq neg d d = some (.frz (.bl (!neg))) := by
  rw [gEq_of h h, pyEq_refl h]
  cases neg <;> rfl
theorem pyEq_int {i j : Int} : pyEq (.int i) (.int j) = decide (i = j) := by
  unfold pyEq toPy PyData.eqv
  exact Bool.eq_iff_iff.mpr (by simp)
theorem gEq_int {neg : Bool} {i j : Int} : gEq neg (.int i) (.int j) = some (.frz (.bl (neg != decide (i = j)))) := by
  rw [gEq_of ((Pl.int (n := 0)).plain (by decide)) ((Pl.int (n := 0)).plain (by decide)), pyEq_int]
end Dd
namespace Dd
open PySem PySem.Spec PyProof.Rows L2
theorem strOk_iff {s : Str} : PyData.strOk s = true ↔ ∀ c ∈ s.cps.toList, c < 0x110000 := by
  unfold PyData.strOk
  rw [← Array.all_toList, List.all_eq_true]
  exact ⟨fun h c hc => of_decide_eq_true (h c hc), fun h c hc => decide_eq_true (h c hc)⟩
theorem strOk_app {a b : Str} (ha : PyData.strOk a = true) (hb : PyData.strOk b = true) : PyData.strOk (a ++ b) = true := by
  rw [strOk_iff] at ha hb ⊢
  intro c hc
  have : c ∈ a.cps.toList ++ b.cps.toList := by
    have e : (a ++ b).cps = a.cps ++ b.cps := rfl
    rw [e] at hc
    simpa using hc
  rcases List.mem_append.mp this with h | h
  · exact ha c h
  · exact hb c h
theorem strOk_cut {a : Str} {l u : Option Int} (ha : PyData.strOk a = true) : PyData.strOk (cutS a l u) = true := by
  rw [strOk_iff] at ha ⊢
  intro c hc
  unfold cutS at hc
  have h2 := List.mem_of_mem_take (by simpa using hc)
  exact ha c (List.mem_of_mem_drop h2)
theorem strOk_one {a : Str} {c : Nat} (ha : PyData.strOk a = true) (h : c ∈ a.cps.toList) : PyData.strOk ⟨#[c]⟩ = true := by
  rw [strOk_iff] at ha ⊢
  intro x hx
  have : x = c := by simpa using hx
  rw [this]
  exact ha c h
theorem gEq_nil {neg : Bool} {ds : List D} (h : plain (.lst ds) = true) : gEq neg (.lst ds) (.lst []) = some (.frz (.bl (neg != decide (ds = [])))) := by
  rw [gEq_of h (by decide +kernel)]
  have : pyEq (.lst ds) (.lst []) = decide (ds = []) := by
    obtain ⟨p, e, s⟩ := plain_of h
    cases ds with
    | nil => exact pyEq_refl h
    | cons d ds =>
      unfold pyEq
      rw [e]
      unfold toPy at e
      cases e2 : toPyL (d :: ds) with
      | none => rw [e2] at e; cases e
      | some ps =>
        rw [e2] at e
        cases e
        unfold toPyL at e2
        cases e3 : toPy d <;> cases e4 : toPyL ds <;> rw [e3, e4] at e2 <;> cases e2
        rfl
  rw [this]
theorem t_iteX {p : Prop} [Decidable p] {A B : Prop} (h1 : ¬ p → A) (h2 : p → B) : if (true != decide p) = true then A else B := by
  by_cases h : p
  · rw [decide_eq_true h, if_neg (by decide)]; exact h2 h
  · rw [decide_eq_false h, if_pos (by decide)]; exact h1 h
theorem t_iteY {p : Prop} [Decidable p] {A B : Prop} (h1 : p → A) (h2 : ¬ p → B) : if (false != decide p) = true then A else B := by
  by_cases h : p
  · rw [decide_eq_true h, if_pos (by decide)]; exact h1 h
  · rw [decide_eq_false h, if_neg (by decide)]; exact h2 h
theorem iteNT {A B : Prop} (h : B) : if (!true) = true then A else B := h
theorem iteNF {A B : Prop} (h : A) : if (!false) = true then A else B := h
theorem iteXT {p : Prop} [Decidable p] {A B : Prop} (hp : p) (h : B) : if (true != decide p) = true then A else B := t_iteX (fun n => absurd hp n) fun _ => h
theorem iteXF {p : Prop} [Decidable p] {A B : Prop} (hp : ¬ p) (h : A) : if (true != decide p) = true then A else B := t_iteX (fun _ => h) fun n => absurd n hp
theorem iteYT {p : Prop} [Decidable p] {A B : Prop} (hp : p) (h : A) : if (false != decide p) = true then A else B := t_iteY (fun _ => h) fun n => absurd hp n
theorem iteYF {p : Prop} [Decidable p] {A B : Prop} (hp : ¬ p) (h : B) : if (false != decide p) = true then A else B := t_iteY (fun n => absurd n hp) fun _ => h
theorem gIsi_T {a : List D} (h : gIsi a = some (.frz (.bl true))) : gIsi a = some (.frz (.bl true)) := h
theorem gIsi_F {a : List D} (h : gIsi a = some (.frz (.bl false))) : gIsi a = some (.frz (.bl false)) := h
end Dd

namespace Dd
open PySem PySem.Spec PyProof.Rows L2
/-! ### what is asked of a name that stays its owner's -/
def CaOkS (C : Cd) (r : List V → Hp → VK → Prop) (g : List D → Option Sl) : Prop := ∀ F H σ env v (t : Sl) d s (Q : VK), In C F H σ env → SlOk C F H t v → t.val = some d → g [d] = some s →
  (∀ v F' H', In C F' H' σ env → Same F F' → Res C F' H' env σ s v → Q v H') → r [v] H Q
def gIsi1 (t : String) : List D → Option Sl
  | [d] => gIsi [d, .ty t]
  | _ => none
section
variable {X : Cx} {C : Cd}
theorem ok_listS : CaOkS C (rListA C.K) gList := by
  intro F H σ env v t d s Q I o ev hg k
  have key : ∀ (p : Addr) (e : D), some e = some d → Own C.K C.mg F H e p → rListA C.K [.ref p] H Q := fun p e h o => by
    cases h
    cases d <;> first | exact o.elim | (cases hg; done) | skip
    obtain ⟨xs, h1, h2⟩ := o
    cases hg
    refine ⟨p, xs, rfl, .inl (.inl (.inl h1)), fun l nl => ?_⟩
    obtain ⟨I2, fr⟩ := I.newList nl h2
    exact k _ _ _ I2 (.refl _) ⟨l, rfl, fr⟩
  cases t with
  | frz e =>
    cases ev
    exact ok_list F H σ env [v] [d] s Q I (repCons o repNil) hg k
  | own e =>
    obtain ⟨p, rfl, _, _, o⟩ := o
    exact key p e ev o
  | bor e =>
    obtain ⟨p, rfl, _, _, o⟩ := o
    exact key p e ev o
  | exn c => cases ev
theorem peek_of {i : Nat} {g : List D → Option Sl} {σ : L2.St} {H : Hp} {Q : VK} {F : Hp} {env : DEnv} (I : In C F H σ env) (h : Fin C F σ (peekC g i env) fun s e F' H' => ∀ v, Res C F' H' e σ s v → Q v H') :
    ∃ t d s v, env[i]? = some (some t) ∧ t.val = some d ∧ g [d] = some s ∧ σ[i]? = some (some v) ∧ SlOk C F H t v ∧ ∀ v F' H', In C F' H' σ env → Same F F' → Res C F' H' env σ s v → Q v H' := by
  unfold peekC at h
  cases ei : env[i]? with
  | none => rw [ei] at h; exact h.elim
  | some z =>
    cases z with
    | none => rw [ei] at h; exact h.elim
    | some t =>
      rw [ei] at h
      simp only at h
      cases ev : t.val with
      | none => simp only [ev] at h; exact h.elim
      | some d =>
        simp only [ev] at h
        obtain ⟨v, hv, rv⟩ := I.sl i t ei
        cases eg : g [d] with
        | none => simp only [eg] at h; exact h.elim
        | some s => simp only [eg] at h; exact ⟨t, d, s, v, rfl, ev, eg, hv, rv, fun w F' H' I' s' r' => h F' H' I' s' w r'⟩
theorem qe_peekT {e : Expr} {x : Str} {T : String} {p pos : Pos} {i : Nat} {r : List V → Hp → VK → Prop} {g : List D → Option Sl} (hc : CallR X (.type T) r) (ok : CaOkS C r g) (hg : Gl X x) (hm : X.mg x = none) (hv : bootBuiltins x = some (.type T)) (ha : PE X e (tVar i)) (hn : x ≠ "__name__" := by decide) (hdb : (x == ("__debug__" : Str)) = false := by decide)
    (hx : starEach [e] X.env = (false, eval e X.env) :: starEach [] X.env := by rfl) (hpl : (backTo pos (starEach [] X.env)).any (·.1) = false := by rfl) : PE X (.Call (.Name x p) [e] [] pos) (tD C (peekC g i)) :=
  PE.weak (pe_callTy hc hg hm hv (pa_cons ha pa_nil hx) hn hdb hx hpl) fun σ H Q ⟨F, env, I, h⟩ => by
    obtain ⟨t, d, s, v, _, ev, eg, hv, o, k⟩ := peek_of I h
    exact ⟨v, hv, ok F H σ env v t d s Q I o ev eg k⟩
theorem qe_isP {e : Expr} {y : Str} {T : String} {p p2 pos : Pos} {i : Nat} (ft : Fit X C) (hg : Gl X "isinstance") (hm : X.mg "isinstance" = none) (hg2 : Gl X y) (hm2 : X.mg y = none) (hv2 : bootBuiltins y = some (.type T)) (ha : PE X e (tVar i)) (hn : y ≠ "__name__" := by decide) (hdb : (y == ("__debug__" : Str)) = false := by decide)
    (hx : starEach [e, .Name y p2] X.env = (false, eval e X.env) :: starEach [.Name y p2] X.env := by rfl) (hx2 : starEach [.Name y p2] X.env = (false, eval (.Name y p2) X.env) :: starEach [] X.env := by rfl) (hpl : (backTo pos (starEach [.Name y p2] X.env)).any (·.1) = false := by rfl) : PE X (.Call (.Name "isinstance" p) [e, .Name y p2] [] pos) (tD C (peekC (gIsi1 T) i)) :=
  PE.weak (pe_callB (ca_isi ft) hg hm (by decide +kernel) (pa_cons ha (pa_cons (pe_bltn (v := .ty T) hg2 hm2 hv2 rfl hn hdb) pa_nil hx2) hx) (by decide) (by decide) hx hpl) fun σ H Q ⟨F, env, I, h⟩ => by
    obtain ⟨t, d, s, v, ei, ev, eg, hv, o, k⟩ := peek_of I h
    obtain ⟨v', hv', rv⟩ := I.now ei ev
    cases hv.symm.trans hv'
    refine ⟨v, hv, ?_⟩
    unfold gIsi1 gIsi at eg
    simp only at eg
    cases e1 : isiB d T with
    | none => rw [e1] at eg; cases eg
    | some b =>
      rw [e1] at eg
      cases eg
      obtain ⟨u, h1, h2⟩ := isi_of rv e1
      exact ⟨v, .ty T, u, .type T, b, rfl, .ty T, h1, h2, k _ F H I (.refl _) resBl⟩
end
/-! ### sorted(set(a list of ints)) -/
abbrev noSet (w : World) : Obj := { cls := .type "set", dict := none, data := .set #[] 0 (.fresh 0 0 (!w.params.followText "set-order")) }
section
variable {P : Program} {w : World} {A : Around} {E : Value → Shared → Prop} {s : Shared}
set_option maxRecDepth 100000 in
set_option maxHeartbeats 3200000 in
theorem setOfL {l : Addr} {its : Array Value} (ns : List Int) {Q : Value → Shared → Prop} (calm : A.handled = none) (hl : s.heap.IsList l its) (hi : IntsAre its.toList ns) (few : ns.length + 1 < scanBound)
    (k : ∀ (g : Heap) (tk c : Nat), SetR w g s.heap.objs.size (fun j => decide (j ∈ ns)) c → c ≤ ns.length → (∀ b o, s.heap.get? b = some o → g.get? b = some o) → Q (.ref s.heap.objs.size) { s with heap := g, toks := tk }) :
    wpAny (model P w) A (call (.type "set") [.ref l]) Q E s := by
  have size : its.size = ns.length := (Array.length_toList (xs := its)).symm.trans (IntsAre.length hi)
  have ⟨c0, tl0, mro0⟩ := F.called_set.mro
  have t1 := F.called_set.made
  have t2 := F.called_set.sub
  have t3 := F.called_set.notType
  have t4 := F.called_set.canCreate
  have t5 := F.typeCall_set_1 (.ref l)
  refine wpAny_call (codeAny_of_tree (show wpAny _ _ (callAny (.type "set") _) _ _ _ from wpAny_pure ⟨Code.quiet_builtin _ (by decide +kernel), codeAny_builtin F.entry_type_call ?_⟩))
  rw [Around.under_plain (weight_type_call_type "set" [.ref l] []) rfl]
  repeat any_goals first | assumption | wp_step
  refine codeAny_mono (code_set_led1 (.ref l) (E := E) (Q₁ := fun x z => x = .ref s.heap.objs.size ∧ z = { s with heap := s.heap.push (noSet w) }) ⟨rfl, rfl⟩) fun r z hr => ?_
  rcases r with e | fl
  · exact hr
  cases fl <;> first | exact hr.elim | skip
  obtain ⟨rfl, rfl⟩ := hr
  have atS : (s.heap.push (noSet w)).get? s.heap.objs.size = some (noSet w) := Heap.get?_push_size _ rfl
  have tyS : Shared.TypeIs { s with heap := s.heap.push (noSet w) } (.ref s.heap.objs.size) "set" := ⟨_, atS, rfl⟩
  have i1 := F.called_set.init.lookup
  have i2 := F.called_set.init.bind (.ref s.heap.objs.size)
  repeat any_goals first | assumption | wp_step
  refine codeAny_mono (codeAny_call_builtin (R := wants (fun r z => r = .none ∧ ∃ g tk c, z = { s with heap := g, toks := tk } ∧ SetR w g s.heap.objs.size (fun j => decide (j ∈ ns)) c ∧ c ≤ ns.length ∧ ∀ b o, s.heap.get? b = some o → g.get? b = some o) E) F.called_set.init.plain F.entry_set_init (check_set_init_1 tyS ?_)) fun r z hr => ?_
  · have ⟨ob, hob, hcls, nl, hdat⟩ := hl
    have atL : l < s.heap.objs.size := Heap.lt_size hob
    have hl1 : (s.heap.push (noSet w)).IsList l its := ⟨ob, Heap.get?_push_of_some _ hob, hcls, nl, hdat⟩
    obtain ⟨ocls, odict, odata, oslots⟩ := ob
    simp only at hcls hdat
    subst hcls hdat
    have hob1 : (s.heap.push (noSet w)).get? l = some { cls := .type "list", dict := odict, data := .seq its nl, slots := oslots } := Heap.get?_push_of_some _ hob
    have s1 := F.sub_list_set
    have s2 := F.sub_list_frozenset
    have s3 : (Value.type "list" == Value.type "dict") = false := by decide
    unfold Builtin.«set.__init__» noKeywords Builtin.Frozenset.updateFrom
    generalize ePI : pyIter = PI
    wp_walk
    subst ePI
    have grown1 : (s.heap.push (noSet w)).objs.size = s.heap.objs.size + 1 := Heap.size_push ..
    have offL : l ≠ (s.heap.push (noSet w)).objs.size := by rw [grown1]; exact Nat.ne_of_lt (Nat.lt_succ_of_lt atL)
    have offS : s.heap.objs.size ∉ [(s.heap.push (noSet w)).objs.size, l] := by
      rw [grown1]
      intro hm
      simp only [List.mem_cons, List.not_mem_nil, or_false] at hm
      rcases hm with h | h
      · exact absurd h (Nat.ne_of_lt (Nat.lt_succ_self _))
      · exact absurd h (Nat.ne_of_gt atL)
    have vals : ∀ (i : Nat) (v : Value), its[i]? = some v → ∃ k t, ns[i]? = some k ∧ v = .int k t := fun i v hv => by
      have hlt : i < ns.length := size ▸ (Array.getElem?_eq_some_iff.mp hv).1
      obtain ⟨t, e⟩ := IntsAre.int_at hi i v (by rw [Array.getElem?_toList]; exact hv)
      exact ⟨ns[i], t, List.getElem?_eq_getElem hlt, by rw [e]; simp [List.getD_eq_getElem?_getD, List.getElem?_eq_getElem hlt]⟩
    refine wpAny_pyIter_list hl1 (wpAny_bind (wpAny_runValue ?_))
    refine set_update_ints ((Walks.list (show A.in1.in1.in1.handled = none by simp [calm]) _ l offL its).toS) s.heap.objs.size offS ns size few vals _ 0 _ rfl (Nat.zero_le _) ⟨⟨_, Heap.get?_push_size _ rfl, rfl, rfl⟩, hl1.push _⟩ ⟨0, Nat.le_refl 0, setR_new_at (Heap.get?_push_of_some _ atS)⟩ ?_
    rintro ⟨g, g2, dr, tk, os⟩ c mv hc hS
    have m1 : g2 = s.gens := mv.gens
    have m2 : dr = s.drawn := mv.drawn
    have m3 : os = s.os := mv.os
    subst m1 m2 m3
    show wpAny _ _ _ _ _ _
    refine wpAny_pure (show wpAny _ _ (ret Value.none) _ _ _ from wpAny_pure ⟨rfl, g, tk, c, rfl, hS, size ▸ hc, fun b o e => ?_⟩)
    have hb : b < s.heap.objs.size := Heap.lt_size e
    refine mv.heap b o (fun hm => ?_) (Heap.get?_push_of_some _ (Heap.get?_push_of_some _ e))
    rw [grown1] at hm
    simp only [List.mem_cons, List.not_mem_nil, or_false] at hm
    rcases hm with h | h
    · exact absurd h (Nat.ne_of_lt hb)
    · exact absurd h (Nat.ne_of_lt (Nat.lt_succ_of_lt hb))
  · rcases r with e | fl
    · exact hr
    cases fl <;> first | exact hr.elim | skip
    obtain ⟨rfl, g, tk, c, rfl, hS, hc, keep⟩ := hr
    repeat any_goals first | assumption | wp_step
    exact k _ _ _ hS hc keep
end
def rSetL (K : PySem.W.Frag) (w : World) : List V → Hp → VK → Prop := fun xs H Q => ∃ (l : Addr) (ns : List Int), xs = [.ref l] ∧ SqL K H l (ns.map V.int) ∧ ns.length < 64 ∧
  ∀ (p : Addr) (c : Nat), c ≤ ns.length → H p = none → Q (.ref p) (upd H p (SetO w p (fun j => decide (j ∈ ns)) c))
theorem cr_setL {X : Cx} (hc : X.calm = true) : CallR X (.type "set") (rSetL X.K X.w) := by
  intro pins s σ H xs us Q I r h
  obtain ⟨l, ns, rfl, hs, few, q⟩ := h
  rw [Vals.ref1 r]
  obtain ⟨its, rv, pl, hz⟩ := I.list hs
  refine setOfL ns (I.ok.hd hc) (show s.heap.IsList l its.toArray from pl.isList) (show IntsAre its.toArray.toList ns from ints_of_vals rv) (by unfold scanBound; omega) fun g tk c R hcn keep => ?_
  exact ⟨.ref _, upd H s.heap.objs.size (SetO X.w s.heap.objs.size (fun j => decide (j ∈ ns)) c), I.laid (t' := tk) keep (Nat.le_refl _) (setO_new R), rfl, q _ c hcn (I.hok.fresh (Nat.le_refl _))⟩
/-! each once, ascending -/
def insI (k : Int) : List Int → List Int
  | [] => [k]
  | a :: r => if k < a then k :: a :: r else if k = a then a :: r else a :: insI k r
def sset (ns : List Int) : List Int := ns.foldr insI []
theorem insI_mem {k x : Int} : ∀ {l : List Int}, x ∈ insI k l ↔ x = k ∨ x ∈ l
  | [] => by simp [insI]
  | a :: r => by
    unfold insI
    split
    · simp
    · split
      · rename_i h; subst h; simp
      · simp only [List.mem_cons, insI_mem (l := r)]
        constructor
        · rintro (h | h | h) <;> simp [h]
        · rintro (h | h | h) <;> simp [h]
theorem insI_asc {k : Int} : ∀ {l : List Int}, l.Pairwise (· < ·) → (insI k l).Pairwise (· < ·)
  | [], _ => by simp [insI]
  | a :: r, h => by
    obtain ⟨h1, h2⟩ := List.pairwise_cons.mp h
    unfold insI
    split
    · rename_i hk
      refine List.pairwise_cons.mpr ⟨fun x hx => ?_, h⟩
      rcases List.mem_cons.mp hx with e | e
      · omega
      · have := h1 x e; omega
    · split
      · exact h
      · refine List.pairwise_cons.mpr ⟨fun x hx => ?_, insI_asc h2⟩
        rcases insI_mem.mp hx with e | e
        · omega
        · exact h1 x e
theorem sset_mem {ns : List Int} {x : Int} : x ∈ sset ns ↔ x ∈ ns := by
  unfold sset
  induction ns with
  | nil => rfl
  | cons a r ih => rw [List.foldr_cons, insI_mem, ih, List.mem_cons]
theorem sset_asc {ns : List Int} : (sset ns).Pairwise (· < ·) := by
  unfold sset
  induction ns with
  | nil => exact .nil
  | cons a r ih => exact insI_asc ih
theorem asc_unique : ∀ {a b : List Int}, a.Pairwise (· < ·) → b.Pairwise (· < ·) → (∀ x, x ∈ a ↔ x ∈ b) → a = b
  | [], [], _, _, _ => rfl
  | [], y :: b, _, _, h => by have := (h y).mpr (by simp); cases this
  | x :: a, [], _, _, h => by have := (h x).mp (by simp); cases this
  | x :: a, y :: b, ha, hb, h => by
    obtain ⟨a1, a2⟩ := List.pairwise_cons.mp ha
    obtain ⟨b1, b2⟩ := List.pairwise_cons.mp hb
    have e : x = y := by
      rcases List.mem_cons.mp ((h x).mp (by simp)) with e | e
      · exact e
      rcases List.mem_cons.mp ((h y).mpr (by simp)) with f | f
      · exact f.symm
      have := b1 x e
      have := a1 y f
      omega
    subst e
    rw [asc_unique a2 b2 fun z => ?_]
    constructor
    · intro hz
      rcases List.mem_cons.mp ((h z).mp (by simp [hz])) with e | e
      · have := a1 z hz; omega
      · exact e
    · intro hz
      rcases List.mem_cons.mp ((h z).mpr (by simp [hz])) with e | e
      · have := b1 z hz; omega
      · exact e
abbrev gSortSet := onInts fun ns => if ns.length < 64 then some (.own (.lst ((sset ns).map .int))) else none
theorem qe_sset {X : Cx} {C : Cd} {e : Expr} {fs : List DE} {p p2 q pos : Pos} (ft : Fit X C) (hc : X.calm = true) (hg : Gl X "sorted") (hm : X.mg "sorted" = none) (hg2 : Gl X "set") (hm2 : X.mg "set" = none) (ha : PA X [e] (tDA C fs))
    (hx : starEach [e] X.env = (false, eval e X.env) :: starEach [] X.env := by rfl) (hx2 : starEach [.Call (.Name "set" p2) [e] [] q] X.env = (false, eval (.Call (.Name "set" p2) [e] [] q) X.env) :: starEach [] X.env := by rfl) (hpl : (backTo q (starEach [] X.env)).any (·.1) = false := by rfl) (hpl2 : (backTo pos (starEach [] X.env)).any (·.1) = false := by rfl) :
    PE X (.Call (.Name "sorted" p) [.Call (.Name "set" p2) [e] [] q] [] pos) (tD C (callG gSortSet fs)) := by
  have h1 := pe_callTy (X := X) (x := "set") (p := p2) (pos := q) (cr_setL hc) hg2 hm2 (by decide +kernel) ha (by decide) (by decide) hx hpl
  have h2 := pe_callB (X := X) (x := "sorted") (p := p) (pos := pos) (cr_sortedSet hc) hg hm (by decide +kernel) (pa_cons h1 pa_nil hx2) (by decide) (by decide) hx2 hpl2
  rw [ft.k] at h2
  refine PE.weak h2 fun σ H Q ⟨F, env, I, h⟩ => ⟨F, env, I, (Fin.bnd h).imp fun ds e F1 H1 I1 s1 h1 vs rv => ?_⟩
  cases eg : gSortSet ds with
  | none => simp only [eg] at h1; exact h1.elim
  | some z =>
    simp only [eg] at h1
    unfold gSortSet onInts at eg
    split at eg
    · rename_i zs
      cases e2 : intsOf zs with
      | none => rw [e2] at eg; cases eg
      | some ns =>
        rw [e2] at eg
        have eg : (if ns.length < 64 then some (Sl.own (.lst ((sset ns).map .int))) else none) = some z := eg
        by_cases hl : ns.length < 64
        · rw [if_pos hl] at eg
          cases eg
          obtain ⟨x, rfl, rx⟩ := rep1 rv
          obtain ⟨a, xs, rfl, ha, hr⟩ := rx.lst
          rw [ints_of hr e2] at ha
          refine ⟨a, ns, rfl, .inl (.inl (I1.fh _ _ ha)), hl, fun p c hcn np => ?_⟩
          refine ⟨p, _, c, rfl, upd_same, by omega, fun ms l asc mem len nl => ?_⟩
          have em : ms = sset ns := asc_unique asc sset_asc fun z => by rw [mem, sset_mem]; simp
          subst em
          have I2 := I1.alloc (o := SetO X.w p (fun j => decide (j ∈ ns)) c) np
          obtain ⟨I3, fr⟩ := I2.newList nl (RepL.ints (K := C.K) (mg := C.mg) (ns := sset ns))
          exact h1 _ _ I3 (I1.same np) _ ⟨l, rfl, fr⟩
        · rw [if_neg hl] at eg; cases eg
    · cases eg
end Dd

namespace Dd
open PySem PySem.Spec PyProof.Rows L2
/-! more of the evaluation -/
section
variable {env : DEnv} {X : Str → DEnv → Prop} {Q : Sl × DEnv → Prop}
theorem w_peekI {t : String} {i : Nat} {s : Sl} {d : D} {b : Bool} (e0 : env[i]? = some (some s)) (e1 : s.val = some d) (e2 : isiB d t = some b) (h : Q (.frz (.bl b), env)) : wR (peekC (gIsi1 t) i env) Q X :=
  w_peekC e0 e1 (show (isiB d t).map _ = _ by rw [e2]; rfl) h
theorem w_peekL {i : Nat} {s : Sl} {ds : List D} (e0 : env[i]? = some (some s)) (e1 : s.val = some (.lst ds)) (h : Q (.own (.lst ds), env)) : wR (peekC gList i env) Q X := w_peekC e0 e1 rfl h
theorem w_peekN {i : Nat} {s : Sl} {ds : List D} (e0 : env[i]? = some (some s)) (e1 : s.val = some (.lst ds)) (h : Q (.frz (.int ds.length), env)) : wR (peekC gLen i env) Q X := w_peekC e0 e1 rfl h
end
end Dd
namespace Dd
theorem exG {α : Type} {p : α → Prop} (h : ∃ x, p x) : ∃ x, p x := h
theorem anG {p q : Prop} (h : p ∧ q) : p ∧ q := h
end Dd
namespace Dd
theorem eqG {n : Bool} {a b : D} {P : Sl → Prop} (h : ∃ z, gEq n a b = some z ∧ P z) : ∃ z, gEq n a b = some z ∧ P z := h
theorem slG {a b : Sl} (h : a = b) : a = b := h
end Dd
namespace Dd
open PySem PySem.Spec PyProof.Rows L2
theorem wrG {ε α : Type} {r : R ε α} {Q : α → Prop} {X : Str → ε → Prop} (h : wR r Q X) : wR r Q X := h
end Dd

namespace Dd
open PySem PySem.Spec PyProof.Rows L2
/-! ### xs[::-1] -/
def gRevL : D → Option Sl
  | .lst ds => some (.own (.lst ds.reverse))
  | _ => none
def revD (f : DE) : DE := lift1 gRevL f
theorem qe_rev {X : Cx} {C : Cd} {e : Expr} {f : DE} {k : Nat} {p1 p2 p3 pos : Pos} (ft : Fit X C) (h : PE X e (tD C f)) : PE X (.Subscript e (.Slice none none (some (.UnaryOp .USub (.Constant (.int 1) k p1) p2)) p3) pos) (tD C (revD f)) := by
  have q := pe_revL (X := X) (k := k) (p1 := p1) (p2 := p2) (p3 := p3) (pos := pos) (qz h)
  rw [ft.k] at q
  refine PE.weak q fun σ H Q ⟨F, env, I, h⟩ => ⟨F, env, I, (Fin.bnd h).imp fun s e F1 H1 I1 s1 h1 x rx => ?_⟩
  cases eg : gRevL s.d with
  | none => simp only [eg] at h1; exact h1.elim
  | some z =>
    simp only [eg] at h1
    cases ed : s.d <;> rw [ed] at eg rx <;> first | (cases eg; done) | skip
    cases eg
    obtain ⟨p, xs, rfl, ha, hr⟩ := rx.lst
    refine ⟨p, xs, rfl, .inl (.inl (I1.fh _ _ ha)), fun q nq => ?_⟩
    obtain ⟨I2, fr⟩ := I1.newList nq hr.rev
    exact h1 _ _ I2 (.refl _) _ ⟨q, rfl, fr⟩
end Dd

namespace Dd
open PySem PySem.Spec PyProof.Rows L2
/-! ### list.count and list.index of flat items, {}, == of lists that hold {} -/
def rCntF (K : PySem.W.Frag) : V → List V → Hp → VK → Prop := fun x xs H Q => ∃ (a : Addr) (ys : List V) (y : V), x = .ref a ∧ xs = [y] ∧ SqL K H a ys ∧ flatV y = true ∧ ys.all flatV = true ∧ Q (.int ((ys.countP fun z => eqV z y : Nat) : Int)) H
theorem count_eqU {y : V} : ∀ {ys : List V} {us : List Value}, Vals ys us → ys.all flatV = true → us.countP (eqU y) = ys.countP fun z => eqV z y
  | _, _, .nil, _ => rfl
  | z :: ys, u :: us, .cons r t, f => by
    rw [List.all_cons, Bool.and_eq_true] at f
    rw [List.countP_cons, List.countP_cons, count_eqU t f.2, eqU_of r f.1]
theorem mt_countF {X : Cx} : MtR X "list.count" (rCntF X.K) := by
  intro pins s σ H x xs v us Q I rx rxs h
  obtain ⟨a, ys, y, rfl, rfl, hs, fy, fys, q⟩ := h
  cases rx
  obtain ⟨u, rfl, ru⟩ := rxs.one
  obtain ⟨its, rv, ⟨⟨cls, dd, data, sl⟩, n, ho, hc, hdn, hd⟩, hlen⟩ := I.list hs
  simp only at hc hd
  subst hc hd
  refine call_meets PySem.F.slot_list_count ⟨_, ho, rfl⟩ PySem.F.entry_list_count (PySem.F.args_list_count_2 _ _) (SeqAt.list_countAt a its.toArray n dd sl u (eqU y)) ⟨ho, fun w hw => mem_eqAt ru fy rv fys w (by simpa using hw), ?_⟩
  have e : its.toArray.toList.countP (eqU y) = ys.countP fun z => eqV z y := count_eqU rv fys
  rw [e]
  exact ⟨.int _, H, I.tok _, ⟨_, rfl⟩, q⟩
def methD (g : List D → List D → Option Sl) (f : DE) (fs : List DE) : DE := fun env => (f env).bind fun p => match p.1.d with
  | .lst zs => (argsD fs p.2).bind fun q => (match g zs q.1 with
    | some s => .ok (s, q.2)
    | none => .no)
  | _ => .no
def MeOk (C : Cd) (r : V → List V → Hp → VK → Prop) (g : List D → List D → Option Sl) : Prop := ∀ F H σ env a xs ys zs ds s (Q : VK), In C F H σ env → H a = some (.lst ys) → RepL C.K C.mg F zs ys → RepL C.K C.mg F ds xs → g zs ds = some s →
  (∀ v F' H', In C F' H' σ env → Same F F' → Res C F' H' env σ s v → Q v H') → r (.ref a) xs H Q
theorem qe_meth {X : Cx} {C : Cd} {o e : Expr} {es : List Expr} {f : DE} {fs : List DE} {name : Str} {id : String} {apos cpos : Pos} {r : V → List V → Hp → VK → Prop} {g : List D → List D → Option Sl} (ft : Fit X C) (slot : Slot "list" name id) (hty : typeOf (.builtin id) = pure (.type "method_descriptor")) (hm : MtR X id r) (ok : MeOk C r g) (ho : PE X o (tD C f)) (ha : PA X (e :: es) (tDA C fs))
    (hbase : attributeBase o name X.env (eval o X.env) = eval o X.env := by rfl)
    (hfew : ((backTo cpos (starEach (e :: es) X.env)).all (fun x => !x.1) && (backToKw cpos (keywordEach [] X.env)).all (fun x => x.1.isSome) && decide ((e :: es).length + ([] : List Keyword).length + (if ([] : List Keyword).isEmpty then 0 else 1) < 30)) = true := by rfl)
    (hline : (apos.endLine == cpos.line) = true := by rfl) (hs : starEach (e :: es) X.env = (false, eval e X.env) :: starEach es X.env := by rfl) (hplain : (backTo cpos (starEach es X.env)).any (·.1) = false := by rfl) :
    PE X (.Call (.Attribute o name apos) (e :: es) [] cpos) (tD C (methD g f fs)) := by
  have q := pe_bm (apos := apos) PySem.F.plainAttrs_list slot hty hm (qz ho) ha hbase hfew hline hs hplain
  rw [ft.k] at q
  refine PE.weak q fun σ H Q ⟨F, env, I, h⟩ => ⟨F, env, I, (Fin.bnd h).imp fun s e F1 H1 I1 s1 h1 x rx => ?_⟩
  cases ed : s.d <;> simp only [ed] at h1 rx <;> first | exact h1.elim | skip
  obtain ⟨p, xs, rfl, hp, hr⟩ := rx.lst
  refine ⟨.inl ⟨rfl, xs, .inl (.inl (I1.fh _ _ hp))⟩, F1, e, I1, (Fin.bnd h1).imp fun ds e2 F2 H2 I2 s2 h2 vs rv => ?_⟩
  rename_i zs
  cases eg : g zs ds with
  | none => simp only [eg] at h2; exact h2.elim
  | some z => simp only [eg] at h2; exact ok F2 H2 σ e2 p vs xs zs ds z Q I2 (I2.fh _ _ (s2 _ _ hp)) (hr.mono s2) rv eg fun v F' H' I' s' r' => h2 F' H' I' s' v r'
def gCountF (zs : List D) : List D → Option Sl
  | [d] => if flatD d && zs.all flatD then some (.frz (.int (zs.countP fun e => eqF e d : Nat))) else none
  | _ => none
def gIndexF (zs : List D) : List D → Option Sl
  | [d] => if flatD d && zs.all flatD then (zs.findIdx? fun e => eqF e d).map fun j => .frz (.int (j : Nat)) else none
  | _ => none
theorem rep_cnt {K : PySem.W.Frag} {mg : Str → Option Value} {H : Hp} {d : D} {v : V} (r : Rep K mg H d v) (h : flatD d = true) : ∀ {ds : List D} {vs : List V}, RepL K mg H ds vs → ds.all flatD = true → (vs.countP fun z => eqV z v) = ds.countP fun e => eqF e d
  | [], vs, rl, _ => by rw [rl.nil]; rfl
  | e :: ds, vs, rl, ha => by
    obtain ⟨x, xs, rfl, h1, h2⟩ := rl.cons
    rw [List.all_cons, Bool.and_eq_true] at ha
    rw [List.countP_cons, List.countP_cons, rep_cnt r h h2 ha.2, rep_eqF h1 r ha.1 h]
theorem ok_countF {C : Cd} : MeOk C (rCntF C.K) gCountF := by
  intro F H σ env a xs ys zs ds s Q I ha hz rv hg k
  unfold gCountF at hg
  split at hg
  · rename_i d
    split at hg
    · rename_i hf
      rw [Bool.and_eq_true] at hf
      cases hg
      obtain ⟨x, rfl, rx⟩ := rep1 rv
      refine ⟨a, ys, x, rfl, rfl, .inl (.inl ha), rep_flat rx hf.1, (rep_inV rx hf.1 hz hf.2).1, ?_⟩
      rw [rep_cnt rx hf.1 hz hf.2]
      exact k _ F H I (.refl _) resInt
    · cases hg
  · cases hg
theorem ok_indexF {C : Cd} : MeOk C (rIndex C.K) gIndexF := by
  intro F H σ env a xs ys zs ds s Q I ha hz rv hg k
  unfold gIndexF at hg
  split at hg
  · rename_i d
    split at hg
    · rename_i hf
      rw [Bool.and_eq_true] at hf
      cases ei : zs.findIdx? fun e => eqF e d with
      | none => rw [ei] at hg; cases hg
      | some j =>
        rw [ei] at hg
        cases hg
        obtain ⟨x, rfl, rx⟩ := rep1 rv
        obtain ⟨hj, h1, h2⟩ := List.findIdx?_eq_some_iff_getElem.mp ei
        obtain ⟨z, hz1, rz⟩ := hz.get (List.getElem?_eq_getElem hj)
        have fl : ∀ (m : Nat) (hm : m < zs.length), flatD zs[m] = true := fun m hm => List.all_eq_true.mp hf.2 _ (List.getElem_mem hm)
        refine ⟨a, ys, x, j, z, rfl, rfl, .inl (.inl ha), rep_flat rx hf.1, (rep_inV rx hf.1 hz hf.2).1, hz1, ?_, fun m z' hm hz' => ?_, k _ F H I (.refl _) resInt⟩
        · rw [rep_eqF rz rx (fl j hj) hf.1]; exact h1
        · have hml : m < zs.length := by omega
          obtain ⟨z2, hz2, rz2⟩ := hz.get (List.getElem?_eq_getElem hml)
          cases hz'.symm.trans hz2
          rw [rep_eqF rz2 rx (fl m hml) hf.1]
          simpa using h2 m hm
    · cases hg
  · cases hg
theorem ca_indexF {X : Cx} {C : Cd} (ft : Fit X C) : MtR X "list.index" (rIndex C.K) := by rw [← ft.k]; exact mt_index
theorem ca_countF {X : Cx} {C : Cd} (ft : Fit X C) : MtR X "list.count" (rCntF C.K) := by rw [← ft.k]; exact mt_countF
def noDictD : DE := fun env => .ok (.frz (.dK [] []), env)
theorem qe_noDict {X : Cx} {C : Cd} {pos : Pos} : PE X (.Dict [] [] pos) (tD C noDictD) :=
  PE.weak pe_dnewK fun σ H Q ⟨F, env, I, h⟩ => fun p np => h _ _ (I.alloc np) (I.same np) _ (by unfold Res Rep; exact ⟨p, [], rfl, upd_same, rfl, repNil⟩)
/-! == -/
theorem emptyEq (a b : Addr) (ep ep2 : Nat) (d1 d2 : Option Addr) (l1 l2 : Array (Option Value)) (na : ¬ (a == sysModules) = true) (nb : ¬ (b == sysModules) = true) : Meets (Builtin.«dict.__eq__» ⟨[.ref a, .ref b], []⟩) (fun _ R s => s.heap.get? a = some { cls := .type "dict", dict := d1, data := .dict #[] ep, slots := l1 } ∧ s.heap.get? b = some { cls := .type "dict", dict := d2, data := .dict #[] ep2, slots := l2 } ∧ R (.ok (.ret (.bool true))) s) := by
  intro prog w A R s h
  obtain ⟨hp, g, d, tk, os⟩ := s
  obtain ⟨hl, hb, h⟩ := h
  have sub : isSubtype (.type "dict") (.type "dict") = pure true := by rw [isSubtype_type]; kernel_rfl
  unfold Builtin.«dict.__eq__»
  wp_walk using wpAny_loadPart' hl, wpAny_loadPart' hb
  refine wpAny_of_eq (a := (none, ())) (by first | rfl | (with_unfolding_all rfl)) ?_
  wp_walk
  exact h
def EqP (K : PySem.W.Frag) (H : Hp) (x y : V) (b : Bool) : Prop := (∃ d e, Dp K H x d ∧ Dp K H y e ∧ SeqAt.shaped d = true ∧ SeqAt.shaped e = true ∧ d.depth ≤ 60 ∧ b = PyData.eqv d e) ∨ (∃ p q, x = .ref p ∧ y = .ref q ∧ H p = some (.dK []) ∧ H q = some (.dK []) ∧ b = true)
inductive EqPs (K : PySem.W.Frag) (H : Hp) : List V → List V → List Bool → Prop
  | nil : EqPs K H [] [] []
  | cons {x y : V} {b : Bool} {xs ys : List V} {bs : List Bool} : EqP K H x y b → EqPs K H xs ys bs → EqPs K H (x :: xs) (y :: ys) (b :: bs)
theorem EqPs.len {K : PySem.W.Frag} {H : Hp} : ∀ {xs ys : List V} {bs : List Bool}, EqPs K H xs ys bs → xs.length = bs.length ∧ ys.length = bs.length
  | _, _, _, .nil => ⟨rfl, rfl⟩
  | _, _, _, .cons _ t => by simp [t.len.1, t.len.2]
theorem EqPs.at {K : PySem.W.Frag} {H : Hp} : ∀ {xs ys : List V} {bs : List Bool}, EqPs K H xs ys bs → ∀ (j : Nat) (h1 : j < xs.length) (h2 : j < ys.length) (h3 : j < bs.length), EqP K H xs[j] ys[j] bs[j]
  | _, _, _, .cons h t, 0, _, _, _ => h
  | _, _, _, .cons h t, j + 1, h1, h2, h3 => t.at j (by simpa using h1) (by simpa using h2) (by simpa using h3)
def rEqX (K : PySem.W.Frag) : R2 := fun x y H Q => rEqD K x y H Q ∨ ∃ p q xs ys bs, x = .ref p ∧ y = .ref q ∧ SqL K H p xs ∧ SqL K H q ys ∧ EqPs K H xs ys bs ∧ Q (.bl (bs.all id)) H
theorem emptyAt {X : Cx} {pins : List (Addr × Obj)} {σ : L2.St} {H : Hp} {s : Shared} {A : Around} {p q : Addr} (I : Inv X pins σ H s) (hp : H p = some (.dK [])) (hq : H q = some (.dK [])) (hu : A.units < cLine) : SeqAt.EqAt A s (.ref p) (.ref q) true := by
  by_cases e : p = q
  · subst e; exact SeqAt.EqAt.same _
  · obtain ⟨_, np, vs, kv, o, es, ep, ho, ex, hd, _, pr, _⟩ := dk_of I.hok hp
    obtain ⟨_, nq, vs2, kv2, o2, es2, ep2, ho2, ex2, hd2, _, pr2, _⟩ := dk_of I.hok hq
    cases kv
    cases kv2
    have e1 : es = #[] := by have := pr.length; simpa using this
    have e2 : es2 = #[] := by have := pr2.length; simpa using this
    subst e1 e2
    obtain ⟨c1, d1, dt1, l1⟩ := o
    obtain ⟨c2, d2, dt2, l2⟩ := o2
    have x1 := ex.1
    have x2 := ex2.1
    simp only at x1 x2 hd hd2
    subst x1 x2 hd hd2
    refine SeqAt.EqAt.of_refs e fun prog w E Q hQ => ?_
    exact richCompare_meets_room (op := .Eq) ⟨_, ho, rfl⟩ ⟨_, ho2, rfl⟩ PySem.F.slot_dict_eq PySem.F.entry_dict_eq (PySem.F.args_dict_eq_2 _ _) (emptyEq p q ep ep2 d1 d2 l1 l2 (by rw [np]; decide) (by rw [nq]; decide)) ⟨ho, ho2, show Value.bool true ≠ Value.notImplemented ∧ Q (.bool true) s from ⟨(fun z => nomatch z), hQ⟩⟩ hu
theorem op_eqX {X : Cx} {C : Cd} (ft : Fit X C) (hu : X.A.units + 64 < cLine) : OpR X (compareOp .Eq) (rEqX C.K) := by
  rw [← ft.k]
  refine OpR.or (op_eqD hu) ?_
  intro pins s σ H x y v u Q I rx ry h
  obtain ⟨p, q, xs, ys, bs, rfl, rfl, hp, hq, he, k⟩ := h
  cases rx
  cases ry
  obtain ⟨its, rv, pl, hz⟩ := I.list hp
  obtain ⟨its2, rv2, pl2, hz2⟩ := I.list hq
  have hl := he.len
  have l1 : its.length = bs.length := by rw [← rv.length, hl.1]
  have l2 : its2.length = bs.length := by rw [← rv2.length, hl.2]
  have fin : ((List.range its.toArray.size).all fun j => bs.getD j true) = bs.all id := by
    rw [List.size_toArray, l1]
    apply Bool.eq_iff_iff.mpr
    rw [List.all_eq_true, List.all_eq_true]
    constructor
    · intro h b hb
      obtain ⟨j, hj, rfl⟩ := List.getElem_of_mem hb
      have := h j (List.mem_range.mpr hj)
      rw [List.getD_eq_getElem?_getD, List.getElem?_eq_getElem hj] at this
      exact this
    · intro h j hj
      have hj := List.mem_range.mp hj
      rw [List.getD_eq_getElem?_getD, List.getElem?_eq_getElem hj]
      exact h _ (List.getElem_mem hj)
  refine SeqAt.eq_listAt (e := fun j => bs.getD j true) pl.isList pl2.isList (by simp [l1, l2]) (by omega) (fun j h1 h2 => ?_) (by rw [fin]; exact ⟨.bl _, H, I, rfl, k⟩)
  have hj : j < bs.length := by simpa [l1] using h1
  have hx := he.at j (by omega) (by omega) hj
  have eb : bs.getD j true = bs[j] := by rw [List.getD_eq_getElem?_getD, List.getElem?_eq_getElem hj]; rfl
  rw [eb]
  obtain ⟨u1, hu1, r1⟩ := rv.get (List.getElem?_eq_getElem (by omega : j < xs.length))
  obtain ⟨u2, hu2, r2⟩ := rv2.get (List.getElem?_eq_getElem (by omega : j < ys.length))
  have g1 : its.toArray[j] = u1 := by have := (List.getElem?_eq_some_iff.mp hu1).2; simpa using this
  have g2 : its2.toArray[j] = u2 := by have := (List.getElem?_eq_some_iff.mp hu2).2; simpa using this
  rw [g1, g2]
  rcases hx with ⟨d, e, h1, h2, s1, s2, dp, hb⟩ | ⟨a, b, ex, ey, h1, h2, hb⟩
  · obtain ⟨as, ra⟩ := Dp.reads I d _ _ h1 r1
    obtain ⟨bs', rb⟩ := Dp.reads I e _ _ h2 r2
    rw [hb]
    refine SeqAt.eqAt_reads d e _ s u1 u2 as bs' ra rb (SeqAt.canLay_of_shaped s1) (SeqAt.canLay_of_shaped s2) ?_
    show X.A.units + 1 + _ < cLine
    have := Nat.min_le_left d.depth e.depth
    omega
  · rw [ex] at r1
    rw [ey] at r2
    cases r1
    cases r2
    rw [hb]
    exact emptyAt I h1 h2 (by show X.A.units + 1 < cLine; omega)
/-- == of two things, or of lists of things some of which are {} -/
def eqPD : D → D → Option Bool
  | .dK [] _, .dK [] _ => some true
  | d, e => if plain d && plain e && decide (((toPy d).map PyData.depth).getD 0 ≤ 60) then some (pyEq d e) else none
def eqPDs : List D → List D → Option (List Bool)
  | [], [] => some []
  | d :: ds, e :: es => match eqPD d e, eqPDs ds es with
    | some b, some bs => some (b :: bs)
    | _, _ => none
  | _, _ => none
def gEqX (d e : D) : Option Sl := match gEq false d e with
  | some s => some s
  | none => match d, e with
    | .lst ds, .lst es => (eqPDs ds es).map fun bs => .frz (.bl (bs.all id))
    | _, _ => none
theorem ok_pd {C : Cd} {F H : Hp} (fh : Same F H) {d e : D} {x y : V} {b : Bool} (rx : Rep C.K C.mg F d x) (ry : Rep C.K C.mg F e y) (h : eqPD d e = some b) : EqP C.K H x y b := by
  unfold eqPD at h
  split at h
  · cases h
    unfold Rep at rx ry
    obtain ⟨a, xs, rfl, h1, _⟩ := rx
    obtain ⟨a2, xs2, rfl, h2, _⟩ := ry
    exact .inr ⟨a, a2, rfl, rfl, fh _ _ h1, fh _ _ h2, rfl⟩
  · split at h
    · rename_i hp
      cases h
      rw [Bool.and_eq_true, Bool.and_eq_true] at hp
      obtain ⟨p, e1, s1⟩ := plain_of hp.1.1
      obtain ⟨q, e2, s2⟩ := plain_of hp.1.2
      have hd := of_decide_eq_true hp.2
      rw [e1] at hd
      exact .inl ⟨p, q, rep_dp (rx.mono fh) e1, rep_dp (ry.mono fh) e2, s1, s2, hd, by unfold pyEq; rw [e1, e2]⟩
    · cases h
theorem ok_pds {C : Cd} {F H : Hp} (fh : Same F H) : ∀ {ds es : List D} {xs ys : List V} {bs : List Bool}, RepL C.K C.mg F ds xs → RepL C.K C.mg F es ys → eqPDs ds es = some bs → EqPs C.K H xs ys bs
  | [], [], xs, ys, bs, rx, ry, h => by rw [rx.nil, ry.nil]; unfold eqPDs at h; cases h; exact .nil
  | [], e :: es, _, _, _, _, _, h => by unfold eqPDs at h; cases h
  | d :: ds, [], _, _, _, _, _, h => by unfold eqPDs at h; cases h
  | d :: ds, e :: es, xs, ys, bs, rx, ry, h => by
    obtain ⟨x, xs', rfl, h1, h2⟩ := rx.cons
    obtain ⟨y, ys', rfl, h3, h4⟩ := ry.cons
    unfold eqPDs at h
    cases e1 : eqPD d e with
    | none => rw [e1] at h; cases h
    | some b =>
      cases e2 : eqPDs ds es with
      | none => rw [e1, e2] at h; cases h
      | some bs' =>
        rw [e1, e2] at h
        cases h
        exact .cons (ok_pd fh h1 h3 e1) (ok_pds fh h2 h4 e2)
theorem ok_eqX {C : Cd} : OpOk C (rEqX C.K) gEqX := by
  intro F H σ env x y d e s Q I rx ry hg k
  unfold gEqX at hg
  cases e1 : gEq false d e with
  | some z =>
    rw [e1] at hg
    cases hg
    exact .inl (ok_eq F H σ env x y d e s Q I rx ry e1 k)
  | none =>
    rw [e1] at hg
    simp only at hg
    split at hg
    · rename_i ds es
      cases e2 : eqPDs ds es with
      | none => rw [e2] at hg; cases hg
      | some bs =>
        rw [e2] at hg
        cases hg
        obtain ⟨p, xs, rfl, h1, h2⟩ := rx.lst
        obtain ⟨q, ys, rfl, h3, h4⟩ := ry.lst
        exact .inr ⟨p, q, xs, ys, bs, rfl, rfl, .inl (.inl (I.fh _ _ h1)), .inl (.inl (I.fh _ _ h3)), ok_pds I.fh h2 h4 e2, k _ F H I (.refl _) resBl⟩
    · cases hg
end Dd
namespace Dd
open PySem PySem.Spec PyProof.Rows L2
/-! ### a def that raises nothing, called where something may be raised -/
def call0D (g : DF) (fs : List DE) : DE := fun env => (argsD fs env).bind fun p => match g p.1 with
  | .ok q => .ok (q.1, p.2)
  | _ => .no
section
variable {X : Cx} {C : Cd} {x : Str} {st : Stmt} {ps : List Str} {k : Nat} {e : Expr} {es : List Expr} {p pos : Pos} {g : DF} {fs : List DE}
theorem t_callN {σ : L2.St} {H : Hp} {Q : VK} {n : Nat} {E : XK} (hn : fs.length = n) : tD C (call0D g fs) σ H Q → tDA C fs σ H fun vs H1 => sp0 C.K C.mg n g vs H1 Q E := fun ⟨F, env, I, h⟩ => ⟨F, env, I, by
  unfold call0D at h
  cases ea : argsD fs env with
  | no => rw [ea] at h; exact h
  | er c fs z => rw [ea] at h; exact h
  | ok p =>
    rw [ea] at h
    intro F1 H1 I1 s1 vs rv
    refine ⟨by rw [rv.len, argsD_len ea]; exact hn, F1, p.1, I1.fh, rv, ?_⟩
    simp only [R.bind_ok] at h
    cases eg : g p.1 with
    | no => simp only [eg] at h; exact h.elim
    | er c fs z => simp only [eg] at h; exact h.elim
    | ok q =>
      simp only [eg] at h
      exact fun v F' H' x r => h F' H' (I1.call x) (s1.trans x.ff) v (I1.resO r)⟩
theorem qe_call0 (ft : Fit X C) (O : Ok X.prog X.w X.K X.mg X.base CX0 x st k ps (sp0 X.K X.mg ps.length g)) (hr : Room k X.A) (hg : Gl X x) (ha : PA X (e :: es) (tDA C fs)) (hn : fs.length = ps.length := by rfl) (hdb : (x == ("__debug__" : Str)) = false := by decide) (he : starEach (e :: es) X.env = (false, eval e X.env) :: starEach es X.env := by rfl) (hpl : (backTo pos (starEach es X.env)).any (·.1) = false := by rfl) :
    PE X (.Call (.Name x p) (e :: es) [] pos) (tD C (call0D g fs)) := by
  obtain ⟨f, fd, F, G, m, b⟩ := O
  refine PE.weak (pe_call G hr hg m F.kp b .nil pass0 ha hdb he hpl) fun σ H Q h => ?_
  have q := t_callN (E := E0) hn h
  rw [← ft.k, ← ft.m] at q
  obtain ⟨F1, env, I, q⟩ := q
  exact ⟨F1, env, I, q.imp fun ds e F' H' I' s' k vs rv => by show sp0 X.K X.mg ps.length g (vs ++ []) H' Q E0; rw [List.append_nil]; exact k vs rv⟩
end
theorem w_call0 {env : DEnv} {X : Str → DEnv → Prop} {Q : Sl × DEnv → Prop} {g : DF} {fs : List DE} (h : wR (argsD fs env) (fun p => wR (g p.1) (fun q => Q (q.1, p.2)) (fun _ _ => False)) X) : wR (call0D g fs env) Q X :=
  wR_bind (h.mon fun p h => by
    obtain ⟨q, e, h⟩ := h.ok
    simp only [e]
    exact h)
theorem w_meth {env : DEnv} {X : Str → DEnv → Prop} {Q : Sl × DEnv → Prop} {g : List D → List D → Option Sl} {f : DE} {fs : List DE} (h : wR (f env) (fun p => ∃ zs, p.1.d = .lst zs ∧ wR (argsD fs p.2) (fun q => ∃ s, g zs q.1 = some s ∧ Q (s, q.2)) X) X) : wR (methD g f fs env) Q X :=
  wR_bind (h.mon fun p ⟨zs, e, h⟩ => by
    simp only [e]
    exact wR_bind (h.mon fun q ⟨s, e, h⟩ => by simp only [e]; exact h))
theorem w_noDict {env : DEnv} {X : Str → DEnv → Prop} {Q : Sl × DEnv → Prop} (h : Q (.frz (.dK [] []), env)) : wR (noDictD env) Q X := h
end Dd
namespace Dd
open PySem PySem.Spec PyProof.Rows L2
theorem gEqX_of {d e : D} {s : Sl} (h : gEq false d e = some s) : gEqX d e = some s := by unfold gEqX; rw [h]
theorem gEqX_int {i j : Int} : gEqX (.int i) (.int j) = some (.frz (.bl (false != decide (i = j)))) := gEqX_of gEq_int
theorem pd_pl {d : D} (h : Pl 40 d) : eqPD d d = some true := by
  have hp := h.plain (by decide)
  obtain ⟨p, a, b, c⟩ := h
  unfold eqPD
  split
  · rfl
  · rw [if_pos, pyEq_refl hp]
    rw [hp, a]
    show (true && true && decide (p.depth ≤ 60)) = true
    rw [decide_eq_true (by omega)]
    rfl
theorem gEqX_pair {a b : D} (h1 : eqPD a a = some true) (h2 : eqPD b b = some true) : gEqX (.lst [a, b]) (.lst [a, b]) = some (.frz (.bl true)) := by
  unfold gEqX
  cases e : gEq false (.lst [a, b]) (.lst [a, b]) with
  | some s =>
    unfold gEq at e
    split at e
    · rename_i h
      rw [Bool.and_eq_true] at h
      cases e
      rw [pyEq_refl h.1]
      rfl
    · cases e
  | none =>
    simp only [eqPDs, h1, h2]
    rfl
end Dd

namespace Trk
/-! tracks: mathematics -/
def frees (W : Nat → Bool) (f m : Nat) : List Nat := (List.range' f m).filter fun a => !W a
def partAt (lack : Int) (k j : Nat) : Int := lack * ((j : Int) + 1) / (k : Int) - lack * (j : Int) / (k : Int)
structure Ask where
  f : Nat
  m : Nat
  s : Int
def now (sz : List Int) (gap : Int) (a : Ask) : Int := ((sz.drop a.f).take a.m).sum + gap * ((a.m : Int) - 1)
def lack (sz : List Int) (gap : Int) (a : Ask) : Int := if a.s - now sz gap a > 0 then a.s - now sz gap a else 0
def pt (W : Nat → Bool) (sz : List Int) (gap : Int) (a : Ask) (t : Nat) : Int := if t ∈ frees W a.f a.m then partAt (lack sz gap a) (frees W a.f a.m).length ((frees W a.f a.m).idxOf t) else 0
def mx (g p : Int) : Int := if p > g then p else g
def gro (W : Nat → Bool) (sz : List Int) (gap : Int) (as : List Ask) (t : Nat) : Int := as.foldl (fun g a => mx g (pt W sz gap a t)) 0
def grow (W : Nat → Bool) (sz : List Int) (gap : Int) (as : List Ask) : List Int := (List.range sz.length).map fun t => sz.getD t 0 + gro W sz gap as t
def fold (W : Nat → Bool) (gap : Int) (as : List Ask) (ms : List Int) (sz : List Int) : List Int := ms.foldl (fun z m => grow W z gap (as.filter fun a => decide ((a.m : Int) = m))) sz
theorem mx_max (g p : Int) : mx g p = max g p := by unfold mx; split <;> omega
theorem frees_succ (W : Nat → Bool) (f m : Nat) : frees W f (m + 1) = frees W f m ++ if W (f + m) then [] else [f + m] := by
  unfold frees
  rw [List.range'_concat, List.filter_append]
  cases h : W (f + m) <;> simp [h]
theorem frees_nodup (W : Nat → Bool) (f m : Nat) : (frees W f m).Nodup := by
  unfold frees
  exact List.Nodup.sublist (List.filter_sublist) (List.nodup_range' (step := 1))
theorem frees_mem {W : Nat → Bool} {f m t : Nat} : t ∈ frees W f m ↔ f ≤ t ∧ t < f + m ∧ W t = false := by
  unfold frees
  rw [List.mem_filter, List.mem_range'_1]
  simp [and_assoc]
theorem frees_len (W : Nat → Bool) (f m : Nat) : (frees W f m).length ≤ m := by
  unfold frees
  exact Nat.le_trans (List.length_filter_le _ _) (by simp)
theorem grow_len {W : Nat → Bool} {sz : List Int} {gap : Int} {as : List Ask} : (grow W sz gap as).length = sz.length := by simp [grow]
theorem fold_len {W : Nat → Bool} {gap : Int} {as : List Ask} {ms : List Int} : ∀ {sz : List Int}, (fold W gap as ms sz).length = sz.length := by
  unfold fold
  induction ms with
  | nil => intro sz; rfl
  | cons m ms ih => intro sz; rw [List.foldl_cons, ih, grow_len]
theorem set_range {n a : Nat} {v : Int} {h : Nat → Int} : ((List.range n).map h).set a v = (List.range n).map fun t => if t = a then v else h t := by
  apply List.ext_getElem?
  intro i
  rw [List.getElem?_set]
  by_cases hi : i < n
  · rw [List.getElem?_map, List.getElem?_map, List.getElem?_range hi]
    by_cases e : a = i
    · subst e; simp [hi]
    · rw [if_neg e]; simp; exact fun z => absurd z.symm e
  · rw [List.getElem?_map, List.getElem?_map]
    have : (List.range n)[i]? = none := List.getElem?_eq_none (by simp; omega)
    rw [this]
    by_cases e : a = i
    · subst e; simp [hi]
    · rw [if_neg e]; rfl
/-- dealt to the first j of the free ones -/
def dealt (n : Nat) (g : Nat → Int) (fr : List Nat) (p : Nat → Int) (j : Nat) : List Int := (List.range n).map fun t => if t ∈ fr.take j then mx (g t) (p (fr.idxOf t)) else g t
theorem dealt_zero {n : Nat} {g : Nat → Int} {fr : List Nat} {p : Nat → Int} : dealt n g fr p 0 = (List.range n).map g := by simp [dealt]
theorem idx_at {fr : List Nat} (nd : fr.Nodup) {j a : Nat} (h : fr[j]? = some a) : fr.idxOf a = j ∧ a ∉ fr.take j := by
  obtain ⟨hj, e⟩ := List.getElem?_eq_some_iff.mp h
  constructor
  · have : fr.idxOf fr[j] = j := List.Nodup.idxOf_getElem nd j hj
    rw [← e]; exact this
  · intro hm
    obtain ⟨i, hi, e2⟩ := List.mem_take_iff_getElem.mp hm
    have hp := (List.pairwise_iff_getElem.mp nd) i j (by omega) hj (by omega)
    exact hp (by rw [e2, e])
theorem dealt_get {n : Nat} {g : Nat → Int} {fr : List Nat} {p : Nat → Int} {j a : Nat} (nd : fr.Nodup) (h : fr[j]? = some a) (ha : a < n) : (dealt n g fr p j)[a]? = some (g a) := by
  unfold dealt
  rw [List.getElem?_map, List.getElem?_range ha]
  simp [(idx_at nd h).2]
theorem dealt_succ {n : Nat} {g : Nat → Int} {fr : List Nat} {p : Nat → Int} {j a : Nat} (nd : fr.Nodup) (h : fr[j]? = some a) : (dealt n g fr p j).set a (mx (g a) (p j)) = dealt n g fr p (j + 1) := by
  unfold dealt
  rw [set_range]
  refine List.map_congr_left fun t _ => ?_
  obtain ⟨e1, e2⟩ := idx_at nd h
  have ht : fr.take (j + 1) = fr.take j ++ [a] := by rw [List.take_add_one, h]; rfl
  by_cases e : t = a
  · subst e
    rw [if_pos rfl, if_pos (by rw [ht]; simp), e1]
  · rw [if_neg e, ht]
    have : t ∈ fr.take j ++ [a] ↔ t ∈ fr.take j := by simp [e]
    by_cases q : t ∈ fr.take j
    · rw [if_pos q, if_pos (this.mpr q)]
    · rw [if_neg q, if_neg (fun z => q (this.mp z))]
theorem gro_nonneg {W : Nat → Bool} {sz : List Int} {gap : Int} {t : Nat} : ∀ {as : List Ask} {g : Int}, 0 ≤ g → 0 ≤ as.foldl (fun g a => mx g (pt W sz gap a t)) g
  | [], g, h => h
  | a :: as, g, h => by
    rw [List.foldl_cons]
    refine gro_nonneg ?_
    rw [mx_max]; omega
theorem dealt_end {n : Nat} {W : Nat → Bool} {sz : List Int} {gap : Int} {as : List Ask} {a : Ask} : dealt n (gro W sz gap as) (frees W a.f a.m) (partAt (lack sz gap a) (frees W a.f a.m).length) (frees W a.f a.m).length = (List.range n).map (gro W sz gap (as ++ [a])) := by
  unfold dealt
  refine List.map_congr_left fun t _ => ?_
  have e : gro W sz gap (as ++ [a]) t = mx (gro W sz gap as t) (pt W sz gap a t) := by unfold gro; rw [List.foldl_append]; rfl
  rw [e, List.take_length]
  unfold pt
  by_cases h : t ∈ frees W a.f a.m
  · rw [if_pos h, if_pos h]
  · rw [if_neg h, if_neg h]
    have : 0 ≤ gro W sz gap as t := gro_nonneg (Int.le_refl 0)
    rw [mx_max]; omega
/-- running sums of ones -/
def runs (lack : Int) (k i : Nat) : List Int := (List.range i).map (partAt lack k)
theorem runs_succ {lack : Int} {k i : Nat} : runs lack k (i + 1) = runs lack k i ++ [partAt lack k i] := by unfold runs; rw [List.range_succ, List.map_append]; rfl
end Trk

namespace K31
open PySem PySem.Spec PyProof.Rows L2 Dd
def topS (i : Nat) : Stmt := PySem.Challenge.pw_nestlaid_k31_what_are_no_tracks.main.body.getD i (.Pass ⟨0, 0, 0, 0⟩)
abbrev s_p_is_whole : Stmt := topS 6
abbrev s_p_is_count : Stmt := topS 7
abbrev s_p_refuse_no_counts : Stmt := topS 8
abbrev s_p_running_parts : Stmt := topS 9
abbrev s_p_is_one_of : Stmt := topS 11
abbrev s_p_is_from_one : Stmt := topS 12
abbrev s_p_is_track : Stmt := topS 13
abbrev s_p_is_share : Stmt := topS 14
abbrev s_p_refuse_no_tracks : Stmt := topS 15
abbrev s_p_track_sizes : Stmt := topS 17
abbrev s_p_refuse_no_asks : Stmt := topS 18
abbrev s_p_is_ask : Stmt := topS 19
abbrev s_p_grown : Stmt := topS 20
abbrev s_p_stretch_of : Stmt := topS 21
abbrev s_cell_at : Stmt := topS 23
abbrev s_mixed : Stmt := topS 24
abbrev s_next : Stmt := topS 25
abbrev s_word : Stmt := topS 26
abbrev s_bad_track : Stmt := topS 27
abbrev s_bad_ask : Stmt := topS 28
abbrev s_good : Stmt := topS 29
abbrev s_law : Stmt := topS 30
abbrev n_p_is_whole : List Str := ["thing"]
theorem sc_p_is_whole : FnScope n_p_is_whole ["thing"] (defScope s_p_is_whole) := ⟨rfl, rfl, rfl, by decide +kernel, rfl, by decide +kernel, by decide +kernel⟩
abbrev n_p_is_count : List Str := ["thing"]
theorem sc_p_is_count : FnScope n_p_is_count ["thing"] (defScope s_p_is_count) := ⟨rfl, rfl, rfl, by decide +kernel, rfl, by decide +kernel, by decide +kernel⟩
abbrev n_p_refuse_no_counts : List Str := ["things", "thing"]
theorem sc_p_refuse_no_counts : FnScope n_p_refuse_no_counts ["things"] (defScope s_p_refuse_no_counts) := ⟨rfl, rfl, rfl, by decide +kernel, rfl, by decide +kernel, by decide +kernel⟩
abbrev n_p_running_parts : List Str := ["room", "weights", "whole", "parts", "weight_so_far", "dealt_so_far", "weight", "dealt_now"]
theorem sc_p_running_parts : FnScope n_p_running_parts ["room", "weights"] (defScope s_p_running_parts) := ⟨rfl, rfl, rfl, by decide +kernel, rfl, by decide +kernel, by decide +kernel⟩
abbrev n_p_is_one_of : List Str := ["thing", "words"]
theorem sc_p_is_one_of : FnScope n_p_is_one_of ["thing", "words"] (defScope s_p_is_one_of) := ⟨rfl, rfl, rfl, by decide +kernel, rfl, by decide +kernel, by decide +kernel⟩
abbrev n_p_is_from_one : List Str := ["thing"]
theorem sc_p_is_from_one : FnScope n_p_is_from_one ["thing"] (defScope s_p_is_from_one) := ⟨rfl, rfl, rfl, by decide +kernel, rfl, by decide +kernel, by decide +kernel⟩
abbrev n_p_is_track : List Str := ["thing"]
theorem sc_p_is_track : FnScope n_p_is_track ["thing"] (defScope s_p_is_track) := ⟨rfl, rfl, rfl, by decide +kernel, rfl, by decide +kernel, by decide +kernel⟩
abbrev n_p_is_share : List Str := ["thing"]
theorem sc_p_is_share : FnScope n_p_is_share ["thing"] (defScope s_p_is_share) := ⟨rfl, rfl, rfl, by decide +kernel, rfl, by decide +kernel, by decide +kernel⟩
abbrev n_p_refuse_no_tracks : List Str := ["things", "thing"]
theorem sc_p_refuse_no_tracks : FnScope n_p_refuse_no_tracks ["things"] (defScope s_p_refuse_no_tracks) := ⟨rfl, rfl, rfl, by decide +kernel, rfl, by decide +kernel, by decide +kernel⟩
abbrev n_p_track_sizes : List Str := ["tracks", "asks", "gap", "sizes", "track", "many", "ask"]
theorem sc_p_track_sizes : FnScope n_p_track_sizes ["tracks", "asks", "gap"] (defScope s_p_track_sizes) := ⟨rfl, rfl, rfl, by decide +kernel, rfl, by decide +kernel, by decide +kernel⟩
abbrev n_p_refuse_no_asks : List Str := ["things", "tracks", "thing"]
theorem sc_p_refuse_no_asks : FnScope n_p_refuse_no_asks ["things", "tracks"] (defScope s_p_refuse_no_asks) := ⟨rfl, rfl, rfl, by decide +kernel, rfl, by decide +kernel, by decide +kernel⟩
abbrev n_p_is_ask : List Str := ["thing", "tracks", "first", "many", "size"]
theorem sc_p_is_ask : FnScope n_p_is_ask ["thing", "tracks"] (defScope s_p_is_ask) := ⟨rfl, rfl, rfl, by decide +kernel, rfl, by decide +kernel, by decide +kernel⟩
abbrev n_p_grown : List Str := ["tracks", "sizes", "asks", "gap", "growths", "first", "many", "size", "start", "now", "free", "at", "lacking", "part", "growth"]
theorem sc_p_grown : FnScope n_p_grown ["tracks", "sizes", "asks", "gap"] (defScope s_p_grown) := ⟨rfl, rfl, rfl, by decide +kernel, rfl, by decide +kernel, by decide +kernel⟩
abbrev n_p_stretch_of : List Str := ["sizes", "first", "many", "gap", "start"]
theorem sc_p_stretch_of : FnScope n_p_stretch_of ["sizes", "first", "many", "gap"] (defScope s_p_stretch_of) := ⟨rfl, rfl, rfl, by decide +kernel, rfl, by decide +kernel, by decide +kernel⟩
abbrev n_cell_at : List Str := ["_law_script", "_law_k"]
theorem sc_cell_at : FnScope n_cell_at ["_law_script", "_law_k"] (defScope s_cell_at) := ⟨rfl, rfl, rfl, by decide +kernel, rfl, by decide +kernel, by decide +kernel⟩
abbrev n_mixed : List Str := ["_law_cell", "_law_k", "_law_low"]
theorem sc_mixed : FnScope n_mixed ["_law_cell", "_law_k"] (defScope s_mixed) := ⟨rfl, rfl, rfl, by decide +kernel, rfl, by decide +kernel, by decide +kernel⟩
abbrev n_next : List Str := ["_law_source", "_law_many", "_law_found"]
theorem sc_next : FnScope n_next ["_law_source", "_law_many"] (defScope s_next) := ⟨rfl, rfl, rfl, by decide +kernel, rfl, by decide +kernel, by decide +kernel⟩
abbrev n_word : List Str := ["_law_tracks", "_law_asks", "_law_gap", "e", "_law_kinds"]
theorem sc_word : FnScope n_word ["_law_tracks", "_law_asks", "_law_gap"] (defScope s_word) := ⟨rfl, rfl, rfl, by decide +kernel, rfl, by decide +kernel, by decide +kernel⟩
abbrev n_bad_track : List Str := ["_law_source", "_law_some"]
theorem sc_bad_track : FnScope n_bad_track ["_law_source"] (defScope s_bad_track) := ⟨rfl, rfl, rfl, by decide +kernel, rfl, by decide +kernel, by decide +kernel⟩
abbrev n_bad_ask : List Str := ["_law_source", "_law_count", "_law_some"]
theorem sc_bad_ask : FnScope n_bad_ask ["_law_source", "_law_count"] (defScope s_bad_ask) := ⟨rfl, rfl, rfl, by decide +kernel, rfl, by decide +kernel, by decide +kernel⟩
abbrev n_good : List Str := ["_law_cell", "_law_source", "_law_way", "_law_whole", "_law_count", "_law_tracks", "_law_k", "_law_asks", "_law_first", "_law_gap", "_law_due", "_law_kept"]
theorem sc_good : FnScope n_good ["_law_cell"] (defScope s_good) := ⟨rfl, rfl, rfl, by decide +kernel, rfl, by decide +kernel, by decide +kernel⟩
abbrev n_law : List Str := ["_law_script", "_law_cell"]
theorem sc_law : FnScope n_law ["_law_script"] (defScope s_law) := ⟨rfl, rfl, rfl, by decide +kernel, rfl, by decide +kernel, by decide +kernel⟩
structure Txt (K : PySem.W.Frag) (mg : Str → Option Value) : Prop where
  h_p_is_whole : Has K mg "is_whole" s_p_is_whole ["thing"]
  h_p_is_count : Has K mg "is_count" s_p_is_count ["thing"]
  h_p_refuse_no_counts : Has K mg "refuse_no_counts" s_p_refuse_no_counts ["things"]
  h_p_running_parts : Has K mg "running_parts" s_p_running_parts ["room", "weights"]
  h_p_is_one_of : Has K mg "is_one_of" s_p_is_one_of ["thing", "words"]
  h_p_is_from_one : Has K mg "is_from_one" s_p_is_from_one ["thing"]
  h_p_is_track : Has K mg "is_track" s_p_is_track ["thing"]
  h_p_is_share : Has K mg "is_share" s_p_is_share ["thing"]
  h_p_refuse_no_tracks : Has K mg "refuse_no_tracks" s_p_refuse_no_tracks ["things"]
  h_p_track_sizes : Has K mg "track_sizes" s_p_track_sizes ["tracks", "asks", "gap"]
  h_p_refuse_no_asks : Has K mg "refuse_no_asks" s_p_refuse_no_asks ["things", "tracks"]
  h_p_is_ask : Has K mg "is_ask" s_p_is_ask ["thing", "tracks"]
  h_p_grown : Has K mg "grown" s_p_grown ["tracks", "sizes", "asks", "gap"]
  h_p_stretch_of : Has K mg "stretch_of" s_p_stretch_of ["sizes", "first", "many", "gap"]
  h_cell_at : Has K mg "_law_cell_at" s_cell_at ["_law_script", "_law_k"]
  h_mixed : Has K mg "_law_mixed" s_mixed ["_law_cell", "_law_k"]
  h_next : Has K mg "_law_next" s_next ["_law_source", "_law_many"]
  h_word : Has K mg "_law_word" s_word ["_law_tracks", "_law_asks", "_law_gap"]
  h_bad_track : Has K mg "_law_bad_track" s_bad_track ["_law_source"]
  h_bad_ask : Has K mg "_law_bad_ask" s_bad_ask ["_law_source", "_law_count"]
  h_good : Has K mg "_law_good" s_good ["_law_cell"]
  e_NoNumber : ErrC K mg "NoNumber"
  e_NoTrack : ErrC K mg "NoTrack"
  e_NoAsk : ErrC K mg "NoAsk"
  c_NoNumber_NestError : Caught K mg "NoNumber" "NestError"
  c_NoTrack_NestError : Caught K mg "NoTrack" "NestError"
  c_NoAsk_NestError : Caught K mg "NoAsk" "NestError"
  kt_NoNumber_NoTrack : KitC K mg "NoNumber" "NoTrack" false
  kt_NoNumber_NoAsk : KitC K mg "NoNumber" "NoAsk" false
  kt_NoNumber_NoNumber : KitC K mg "NoNumber" "NoNumber" true
  kt_NoTrack_NoTrack : KitC K mg "NoTrack" "NoTrack" true
  kt_NoTrack_NoAsk : KitC K mg "NoTrack" "NoAsk" false
  kt_NoTrack_NoNumber : KitC K mg "NoTrack" "NoNumber" false
  kt_NoAsk_NoTrack : KitC K mg "NoAsk" "NoTrack" false
  kt_NoAsk_NoAsk : KitC K mg "NoAsk" "NoAsk" true
  kt_NoAsk_NoNumber : KitC K mg "NoAsk" "NoNumber" false
  kv_NoNumber_ValueError : PySem.W.kitOne K (.ref (clsA mg "NoNumber")) (.type "ValueError") = some true
  kv_NoTrack_ValueError : PySem.W.kitOne K (.ref (clsA mg "NoTrack")) (.type "ValueError") = some true
  kv_NoAsk_ValueError : PySem.W.kitOne K (.ref (clsA mg "NoAsk")) (.type "ValueError") = some true
  m_isinstance : mg "isinstance" = none
  m_int : mg "int" = none
  m_bool : mg "bool" = none
  m_sum : mg "sum" = none
  m_str : mg "str" = none
  m_tuple : mg "tuple" = none
  m_len : mg "len" = none
  m_all : mg "all" = none
  m_list : mg "list" = none
  m_sorted : mg "sorted" = none
  m_set : mg "set" = none
  m_max : mg "max" = none
  m_zip : mg "zip" = none
  m_range : mg "range" = none
  m_ValueError : mg "ValueError" = none
section
variable {K : PySem.W.Frag} {mg : Str → Option Value}
theorem gC_NoNumber (T : Txt K mg) : mg "NoNumber" = some (.ref (clsA mg "NoNumber")) := T.e_NoNumber.g
theorem gC_NoTrack (T : Txt K mg) : mg "NoTrack" = some (.ref (clsA mg "NoTrack")) := T.e_NoTrack.g
theorem gC_NoAsk (T : Txt K mg) : mg "NoAsk" = some (.ref (clsA mg "NoAsk")) := T.e_NoAsk.g
theorem gC_NestError (T : Txt K mg) : mg "NestError" = some (.ref (clsA mg "NestError")) := T.c_NoNumber_NestError.g
def cl_NestError (c : Str) : Bool := c == "NoNumber" || c == "NoTrack" || c == "NoAsk"
theorem caught_NestError (T : Txt K mg) : ∀ c, cl_NestError c = true → PySem.W.exmOne K (.ref (clsA mg c)) (.ref (clsA mg "NestError")) = some true := by
  intro c h
  simp only [cl_NestError, Bool.or_eq_true, beq_iff_eq] at h
  rcases h with (h | h) | h
  · subst h; exact T.c_NoNumber_NestError.m
  · subst h; exact T.c_NoTrack_NestError.m
  · subst h; exact T.c_NoAsk_NestError.m
theorem exc_of (T : Txt K mg) {c : Str} (h : cl_NestError c = true) : ExcC K (clsA mg c) := by
  simp only [cl_NestError, Bool.or_eq_true, beq_iff_eq] at h
  rcases h with (h | h) | h
  · subst h; exact T.e_NoNumber.e
  · subst h; exact T.e_NoTrack.e
  · subst h; exact T.e_NoAsk.e
def sub_NoAsk (c : Str) : Option Bool := if c = "NoNumber" then some false else if c = "NoTrack" then some false else if c = "NoAsk" then some true else none
theorem sub_NoAsk_of (T : Txt K mg) {c : Str} {b : Bool} (h : sub_NoAsk c = some b) : PySem.W.kitOne K (.ref (clsA mg c)) (.ref (clsA mg "NoAsk")) = some b := by
  unfold sub_NoAsk at h
  by_cases e : c = "NoNumber"
  · rw [if_pos e] at h
    subst e
    rw [← h]
    exact T.kt_NoNumber_NoAsk.m
  rw [if_neg e] at h
  by_cases e : c = "NoTrack"
  · rw [if_pos e] at h
    subst e
    rw [← h]
    exact T.kt_NoTrack_NoAsk.m
  rw [if_neg e] at h
  by_cases e : c = "NoAsk"
  · rw [if_pos e] at h
    subst e
    rw [← h]
    exact T.kt_NoAsk_NoAsk.m
  rw [if_neg e] at h
  cases h
def sub_NoNumber (c : Str) : Option Bool := if c = "NoNumber" then some true else if c = "NoTrack" then some false else if c = "NoAsk" then some false else none
theorem sub_NoNumber_of (T : Txt K mg) {c : Str} {b : Bool} (h : sub_NoNumber c = some b) : PySem.W.kitOne K (.ref (clsA mg c)) (.ref (clsA mg "NoNumber")) = some b := by
  unfold sub_NoNumber at h
  by_cases e : c = "NoNumber"
  · rw [if_pos e] at h
    subst e
    rw [← h]
    exact T.kt_NoNumber_NoNumber.m
  rw [if_neg e] at h
  by_cases e : c = "NoTrack"
  · rw [if_pos e] at h
    subst e
    rw [← h]
    exact T.kt_NoTrack_NoNumber.m
  rw [if_neg e] at h
  by_cases e : c = "NoAsk"
  · rw [if_pos e] at h
    subst e
    rw [← h]
    exact T.kt_NoAsk_NoNumber.m
  rw [if_neg e] at h
  cases h
def sub_NoTrack (c : Str) : Option Bool := if c = "NoNumber" then some false else if c = "NoTrack" then some true else if c = "NoAsk" then some false else none
theorem sub_NoTrack_of (T : Txt K mg) {c : Str} {b : Bool} (h : sub_NoTrack c = some b) : PySem.W.kitOne K (.ref (clsA mg c)) (.ref (clsA mg "NoTrack")) = some b := by
  unfold sub_NoTrack at h
  by_cases e : c = "NoNumber"
  · rw [if_pos e] at h
    subst e
    rw [← h]
    exact T.kt_NoNumber_NoTrack.m
  rw [if_neg e] at h
  by_cases e : c = "NoTrack"
  · rw [if_pos e] at h
    subst e
    rw [← h]
    exact T.kt_NoTrack_NoTrack.m
  rw [if_neg e] at h
  by_cases e : c = "NoAsk"
  · rw [if_pos e] at h
    subst e
    rw [← h]
    exact T.kt_NoAsk_NoTrack.m
  rw [if_neg e] at h
  cases h
def sub_ValueError (c : Str) : Option Bool := if c = "NoNumber" then some true else if c = "NoTrack" then some true else if c = "NoAsk" then some true else none
theorem sub_ValueError_of (T : Txt K mg) {c : Str} {b : Bool} (h : sub_ValueError c = some b) : PySem.W.kitOne K (.ref (clsA mg c)) (.type "ValueError") = some b := by
  unfold sub_ValueError at h
  by_cases e : c = "NoNumber"
  · rw [if_pos e] at h
    subst e
    rw [← h]
    exact T.kv_NoNumber_ValueError
  rw [if_neg e] at h
  by_cases e : c = "NoTrack"
  · rw [if_pos e] at h
    subst e
    rw [← h]
    exact T.kv_NoTrack_ValueError
  rw [if_neg e] at h
  by_cases e : c = "NoAsk"
  · rw [if_pos e] at h
    subst e
    rw [← h]
    exact T.kv_NoAsk_ValueError
  rw [if_neg e] at h
  cases h
end
def d_p_is_whole : DS :=
    (retD (andV (callG gIsi [(nameD 0), (conD (.ty "int"))]) (notV (callG gIsi [(nameD 0), (conD (.ty "bool"))]))))
def D_p_is_whole : DF := bodyF 1 d_p_is_whole
theorem ok_p_is_whole {P : Program} {w : World} {K : PySem.W.Frag} {mg : Str → Option Value} {base : Heap} (T : Txt K mg) : Ok P w K mg base CX0 "is_whole" s_p_is_whole 1 ["thing"] (sp0 K mg 1 D_p_is_whole) := by
  exact T.h_p_is_whole.okD (N := n_p_is_whole) (g := d_p_is_whole) sc_p_is_whole (fun f cdv A outer s H E F hr ft => (qss_one (qs_ret (qe_and (qe_callB' (ca_isi ft) ok_isi (by rfl) T.m_isinstance (by decide +kernel) (qa_cons (qe_name (pv 0)) (qa_cons (qe_ty (by rfl) T.m_int (by decide +kernel)) qa_nil))) (qe_one (qe_not (qe_callB' (ca_isi ft) ok_isi (by rfl) T.m_isinstance (by decide +kernel) (qa_cons (qe_name (pv 0)) (qa_cons (qe_ty (by rfl) T.m_bool (by decide +kernel)) qa_nil)))))))))
def d_p_is_count : DS :=
    (retD (andV (callD D_p_is_whole [(nameD 0)]) (lift2 gGe (nameD 0) (conD (.int 0)))))
def D_p_is_count : DF := bodyF 1 d_p_is_count
theorem ok_p_is_count {P : Program} {w : World} {K : PySem.W.Frag} {mg : Str → Option Value} {base : Heap} (T : Txt K mg) : Ok P w K mg base CX0 "is_count" s_p_is_count 2 ["thing"] (sp0 K mg 1 D_p_is_count) := by
  have O_p_is_whole := ok_p_is_whole (P := P) (w := w) (base := base) T
  exact T.h_p_is_count.okD (N := n_p_is_count) (g := d_p_is_count) sc_p_is_count (fun f cdv A outer s H E F hr ft => (qss_one (qs_ret (qe_and (qe_call ft O_p_is_whole rfl (hr.mono (by decide)) (by rfl) (qa_cons (qe_name (pv 0)) qa_nil)) (qe_one (qe_cmp op_ge ok_ge (qe_name (pv 0)) qe_int (nomark _)))))))
def d_p_refuse_no_counts : DS :=
    (forS (iterE (nameD 0)) (gNameD 1)
    (ifD (notT (boolT (call0D D_p_is_count [(nameD 1)])))
    (raiseD "NoNumber")
    nextD))
def D_p_refuse_no_counts : DF := bodyF 2 d_p_refuse_no_counts
theorem okX_p_refuse_no_counts {P : Program} {w : World} {K : PySem.W.Frag} {mg : Str → Option Value} {base : Heap} (T : Txt K mg) : Ok P w K mg base (L2.CX P w) "refuse_no_counts" s_p_refuse_no_counts 3 ["things"] (spP K mg 1 D_p_refuse_no_counts) := by
  have O_p_is_count := ok_p_is_count (P := P) (w := w) (base := base) T
  exact T.h_p_refuse_no_counts.okDX (N := n_p_refuse_no_counts) (g := d_p_refuse_no_counts) sc_p_refuse_no_counts (fun f cdv A outer s H E F hr ft => (fun tk => (qss_one (qs_for (passes_of rfl) (by rfl) (qi_seq ft (qe_name (pv 0))) (qg_name (i := 1) sc_p_refuse_no_counts.nd rfl (by first | exact Or.inl rfl | exact Or.inr rfl))
      (qss_one (qs_if (qt_not (qt_val (qe_call0 ft O_p_is_count (hr.mono (by decide)) (by rfl) (qa_cons (qe_name (pv 1)) qa_nil))))
      (qss_one (qs_raise rfl tk (pmk_own PySem.F.excBase_ValueError T.e_NoNumber.xi T.e_NoNumber.g T.e_NoNumber.k (raises_own T.e_NoNumber.b T.e_NoNumber.t) (by rfl)) (fun _ _ _ h => h)))
      qss_nil))))) (takes_of rfl rfl rfl rfl))
def d_p_running_parts : DS :=
    (seqD (setD 2 (callG gSum [(nameD 1)]))
    (seqD (setD 3 (lstD []))
    (seqD (setD 4 (conD (.int 0)))
    (seqD (setD 5 (conD (.int 0)))
    (seqD (forS (iterE (nameD 1)) (gNameD 6)
    (seqD (augD gAddI 4 (nameD 6))
    (seqD (setD 7 (lift2 gDiv (lift2 gMul (nameD 0) (nameD 4)) (nameD 2)))
    (seqD (exprD (mutD gAppend 3 [(lift2 gSub (nameD 7) (nameD 5))]))
    (setD 5 (nameD 7))))))
    (retNameD 3))))))
def D_p_running_parts : DF := bodyF 8 d_p_running_parts
theorem ok_p_running_parts {P : Program} {w : World} {K : PySem.W.Frag} {mg : Str → Option Value} {base : Heap} (T : Txt K mg) : Ok P w K mg base CX0 "running_parts" s_p_running_parts 1 ["room", "weights"] (sp0 K mg 2 D_p_running_parts) := by
  exact T.h_p_running_parts.okD (N := n_p_running_parts) (g := d_p_running_parts) sc_p_running_parts (fun f cdv A outer s H E F hr ft => (qss_cons (qs_set (i := 2) sc_p_running_parts.nd rfl (by first | exact Or.inl rfl | exact Or.inr rfl) (qe_callB' (ca_sum ft rfl) ok_sum (by rfl) T.m_sum (by decide +kernel) (qa_cons (qe_name (pv 1)) qa_nil)))
      (qss_cons (qs_set (i := 3) sc_p_running_parts.nd rfl (by first | exact Or.inl rfl | exact Or.inr rfl) (qe_lst qa_nil))
      (qss_cons (qs_set (i := 4) sc_p_running_parts.nd rfl (by first | exact Or.inl rfl | exact Or.inr rfl) qe_int)
      (qss_cons (qs_set (i := 5) sc_p_running_parts.nd rfl (by first | exact Or.inl rfl | exact Or.inr rfl) qe_int)
      (qss_cons (qs_for PassesOwn.never (by rfl) (qi_seq ft (qe_name (pv 1))) (qg_name (i := 6) sc_p_running_parts.nd rfl (by first | exact Or.inl rfl | exact Or.inr rfl))
      (qss_cons (qs_aug (i := 4) (fun h => ps_aug (i := 4) sc_p_running_parts.nd rfl (by first | exact Or.inl rfl | exact Or.inr rfl) h ip_add) ok_ipAdd (qe_name (pv 6)))
      (qss_cons (qs_set (i := 7) sc_p_running_parts.nd rfl (by first | exact Or.inl rfl | exact Or.inr rfl) (qe_op op_fdivW ok_div (qe_op op_mulA ok_mul (qe_name (pv 0)) (qe_name (pv 4))) (qe_name (pv 2))))
      (qss_cons (qs_expr (qe_mut ft PySem.F.plainAttrs_list PySem.F.slot_list_append PySem.F.type_list_append mt_append ok_append (pv 3) (qa_cons (qe_op op_sub ok_sub (qe_name (pv 7)) (qe_name (pv 5))) qa_nil)))
      (qss_one (qs_set (i := 5) sc_p_running_parts.nd rfl (by first | exact Or.inl rfl | exact Or.inr rfl) (qe_name (pv 7))))))))
      (qss_one (qs_retName (pv 3)))))))))
def d_p_is_one_of : DS :=
    (retD (andV (callG gIsi [(nameD 0), (conD (.ty "str"))]) (lift2 (gIn false) (nameD 0) (nameD 1))))
def D_p_is_one_of : DF := bodyF 2 d_p_is_one_of
theorem ok_p_is_one_of {P : Program} {w : World} {K : PySem.W.Frag} {mg : Str → Option Value} {base : Heap} (T : Txt K mg) : Ok P w K mg base CX0 "is_one_of" s_p_is_one_of 1 ["thing", "words"] (sp0 K mg 2 D_p_is_one_of) := by
  exact T.h_p_is_one_of.okD (N := n_p_is_one_of) (g := d_p_is_one_of) sc_p_is_one_of (fun f cdv A outer s H E F hr ft => (qss_one (qs_ret (qe_and (qe_callB' (ca_isi ft) ok_isi (by rfl) T.m_isinstance (by decide +kernel) (qa_cons (qe_name (pv 0)) (qa_cons (qe_ty (by rfl) T.m_str (by decide +kernel)) qa_nil))) (qe_one (qe_cmp (op_inA ft) ok_in (qe_name (pv 0)) (qe_name (pv 1)) (by rfl)))))))
def d_p_is_from_one : DS :=
    (retD (andV (callD D_p_is_count [(nameD 0)]) (lift2 gGt (nameD 0) (conD (.int 0)))))
def D_p_is_from_one : DF := bodyF 1 d_p_is_from_one
theorem ok_p_is_from_one {P : Program} {w : World} {K : PySem.W.Frag} {mg : Str → Option Value} {base : Heap} (T : Txt K mg) : Ok P w K mg base CX0 "is_from_one" s_p_is_from_one 3 ["thing"] (sp0 K mg 1 D_p_is_from_one) := by
  have O_p_is_count := ok_p_is_count (P := P) (w := w) (base := base) T
  exact T.h_p_is_from_one.okD (N := n_p_is_from_one) (g := d_p_is_from_one) sc_p_is_from_one (fun f cdv A outer s H E F hr ft => (qss_one (qs_ret (qe_and (qe_call ft O_p_is_count rfl (hr.mono (by decide)) (by rfl) (qa_cons (qe_name (pv 0)) qa_nil)) (qe_one (qe_cmp op_gt ok_gt (qe_name (pv 0)) qe_int (nomark _)))))))
def d_p_is_share : DS :=
    (retD (andV (callG gIsi [(nameD 0), (conD (.ty "tuple"))]) (andV (lift2 (gEq false) (callG gLen [(nameD 0)]) (conD (.int 2))) (andV (callD D_p_is_one_of [(lift2 gIx (nameD 0) (conD (.int 0))), (tupD [(conD (.str (Str.ofString "share")))])]) (callD D_p_is_from_one [(lift2 gIx (nameD 0) (conD (.int 1)))])))))
def D_p_is_share : DF := bodyF 1 d_p_is_share
theorem ok_p_is_share {P : Program} {w : World} {K : PySem.W.Frag} {mg : Str → Option Value} {base : Heap} (T : Txt K mg) : Ok P w K mg base CX0 "is_share" s_p_is_share 4 ["thing"] (sp0 K mg 1 D_p_is_share) := by
  have O_p_is_one_of := ok_p_is_one_of (P := P) (w := w) (base := base) T
  have O_p_is_from_one := ok_p_is_from_one (P := P) (w := w) (base := base) T
  exact T.h_p_is_share.okD (N := n_p_is_share) (g := d_p_is_share) sc_p_is_share (fun f cdv A outer s H E F hr ft => (qss_one (qs_ret (qe_and (qe_callB' (ca_isi ft) ok_isi (by rfl) T.m_isinstance (by decide +kernel) (qa_cons (qe_name (pv 0)) (qa_cons (qe_ty (by rfl) T.m_tuple (by decide +kernel)) qa_nil))) (qe_and (qe_cmp (op_eqA ft hr.units) ok_eq (qe_callB' (ca_len ft) ok_len (by rfl) T.m_len (by decide +kernel) (qa_cons (qe_name (pv 0)) qa_nil)) qe_int (nomark _)) (qe_and (qe_call ft O_p_is_one_of rfl (hr.mono (by decide)) (by rfl) (qa_cons (qe_ix ft (qe_name (pv 0)) qe_int) (qa_cons (qe_tup (qa_cons qe_str qa_nil)) qa_nil))) (qe_one (qe_call ft O_p_is_from_one rfl (hr.mono (by decide)) (by rfl) (qa_cons (qe_ix ft (qe_name (pv 0)) qe_int) qa_nil)))))))))
def d_p_is_track : DS :=
    (retD (orV (callD D_p_is_count [(nameD 0)]) (orV (callD D_p_is_one_of [(nameD 0), (tupD [(conD (.str (Str.ofString "fit")))])]) (callD D_p_is_share [(nameD 0)]))))
def D_p_is_track : DF := bodyF 1 d_p_is_track
theorem ok_p_is_track {P : Program} {w : World} {K : PySem.W.Frag} {mg : Str → Option Value} {base : Heap} (T : Txt K mg) : Ok P w K mg base CX0 "is_track" s_p_is_track 5 ["thing"] (sp0 K mg 1 D_p_is_track) := by
  have O_p_is_count := ok_p_is_count (P := P) (w := w) (base := base) T
  have O_p_is_one_of := ok_p_is_one_of (P := P) (w := w) (base := base) T
  have O_p_is_share := ok_p_is_share (P := P) (w := w) (base := base) T
  exact T.h_p_is_track.okD (N := n_p_is_track) (g := d_p_is_track) sc_p_is_track (fun f cdv A outer s H E F hr ft => (qss_one (qs_ret (qe_or (qe_call ft O_p_is_count rfl (hr.mono (by decide)) (by rfl) (qa_cons (qe_name (pv 0)) qa_nil)) (qe_or (qe_call ft O_p_is_one_of rfl (hr.mono (by decide)) (by rfl) (qa_cons (qe_name (pv 0)) (qa_cons (qe_tup (qa_cons qe_str qa_nil)) qa_nil))) (qe_one (qe_call ft O_p_is_share rfl (hr.mono (by decide)) (by rfl) (qa_cons (qe_name (pv 0)) qa_nil))))))))
def d_p_refuse_no_tracks : DS :=
    (seqD (ifD (orT (notT (boolT (callG gIsi [(nameD 0), (conD (.ty "list"))]))) (boolT (lift2 (gEq false) (callG gLen [(nameD 0)]) (conD (.int 0)))))
    (raiseD "NoTrack")
    nextD)
    (ifD (notT (boolT (callG gAll [(compD (iterE (nameD 0)) (gNameD 1) yesT (callD D_p_is_track [(nameD 1)]) [1] [])])))
    (raiseD "NoTrack")
    nextD))
def D_p_refuse_no_tracks : DF := bodyF 2 d_p_refuse_no_tracks
theorem okX_p_refuse_no_tracks {P : Program} {w : World} {K : PySem.W.Frag} {mg : Str → Option Value} {base : Heap} (T : Txt K mg) : Ok P w K mg base (L2.CX P w) "refuse_no_tracks" s_p_refuse_no_tracks 6 ["things"] (spP K mg 1 D_p_refuse_no_tracks) := by
  have O_p_is_track := ok_p_is_track (P := P) (w := w) (base := base) T
  exact T.h_p_refuse_no_tracks.okDX (N := n_p_refuse_no_tracks) (g := d_p_refuse_no_tracks) sc_p_refuse_no_tracks (fun f cdv A outer s H E F hr ft => (fun tk => (qss_cons (qs_if (PW.pt (qw_or (qt_not (qt_val (qe_callB' (ca_isi ft) ok_isi (by rfl) T.m_isinstance (by decide +kernel) (qa_cons (qe_name (pv 0)) (qa_cons (qe_ty (by rfl) T.m_list (by decide +kernel)) qa_nil))))) (qw_or1 (qt_cmp (op_eqA ft hr.units) ok_eq (qe_callB' (ca_len ft) ok_len (by rfl) T.m_len (by decide +kernel) (qa_cons (qe_name (pv 0)) qa_nil)) qe_int (nomark _)))))
      (qss_one (qs_raise rfl tk (pmk_own PySem.F.excBase_ValueError T.e_NoTrack.xi T.e_NoTrack.g T.e_NoTrack.k (raises_own T.e_NoTrack.b T.e_NoTrack.t) (by rfl)) (fun _ _ _ h => h)))
      qss_nil)
      (qss_one (qs_if (qt_not (qt_val (qe_callB' (ca_all ft rfl) ok_all (by rfl) T.m_all (by decide +kernel) (qa_cons (qe_lc (own := [("thing", 1)]) (zs := []) (by rfl) sc_p_refuse_no_tracks.nd (qi_seq ft (qe_name (pv 0))) (blkOk_by (own := [("thing", 1)]) (N := n_p_refuse_no_tracks) (sc := defScope s_p_refuse_no_tracks) (by decide +kernel)) (fun _ _ _ _ _ _ gn1 => (qg_name (i := 1) sc_p_refuse_no_tracks.nd rfl (by first | exact Or.inl rfl | exact Or.inr rfl))) (fun _ _ _ _ _ _ gn1 => qts_nil) (fun _ _ _ _ _ _ gn1 => (qe_call (Fit.blk ft gn1) O_p_is_track gn1.z (hr.mono (by decide)) (by rfl) (qa_cons (qe_name (pv 1)) qa_nil)))) qa_nil))))
      (qss_one (qs_raise rfl tk (pmk_own PySem.F.excBase_ValueError T.e_NoTrack.xi T.e_NoTrack.g T.e_NoTrack.k (raises_own T.e_NoTrack.b T.e_NoTrack.t) (by rfl)) (fun _ _ _ h => h)))
      qss_nil)))) (takes_of rfl rfl rfl rfl))
def d_p_is_ask : DS :=
    (seqD (ifD (orT (notT (boolT (callG gIsi [(nameD 0), (conD (.ty "tuple"))]))) (boolT (lift2 (gEq true) (callG gLen [(nameD 0)]) (conD (.int 3)))))
    (retD (conD (.bl false)))
    nextD)
    (seqD (asgD (gTupD 3 (gConsD (gNameD 2) (gConsD (gNameD 3) (gConsD (gNameD 4) gNilD)))) (nameD 0))
    (retD (andV (callD D_p_is_count [(nameD 2)]) (andV (callD D_p_is_from_one [(nameD 3)]) (andV (callD D_p_is_count [(nameD 4)]) (lift2 gLe (lift2 gAdd (nameD 2) (nameD 3)) (nameD 1))))))))
def D_p_is_ask : DF := bodyF 5 d_p_is_ask
theorem ok_p_is_ask {P : Program} {w : World} {K : PySem.W.Frag} {mg : Str → Option Value} {base : Heap} (T : Txt K mg) : Ok P w K mg base CX0 "is_ask" s_p_is_ask 4 ["thing", "tracks"] (sp0 K mg 2 D_p_is_ask) := by
  have O_p_is_count := ok_p_is_count (P := P) (w := w) (base := base) T
  have O_p_is_from_one := ok_p_is_from_one (P := P) (w := w) (base := base) T
  exact T.h_p_is_ask.okD (N := n_p_is_ask) (g := d_p_is_ask) sc_p_is_ask (fun f cdv A outer s H E F hr ft => (qss_cons (qs_if (PW.pt (qw_or (qt_not (qt_val (qe_callB' (ca_isi ft) ok_isi (by rfl) T.m_isinstance (by decide +kernel) (qa_cons (qe_name (pv 0)) (qa_cons (qe_ty (by rfl) T.m_tuple (by decide +kernel)) qa_nil))))) (qw_or1 (qt_cmp (op_neA ft hr.units) ok_ne (qe_callB' (ca_len ft) ok_len (by rfl) T.m_len (by decide +kernel) (qa_cons (qe_name (pv 0)) qa_nil)) qe_int (nomark _)))))
      (qss_one (qs_ret qe_bl))
      qss_nil)
      (qss_cons (qs_asg (qe_name (pv 0)) (qg_tup ft rfl (qgs_cons (qg_name (i := 2) sc_p_is_ask.nd rfl (by first | exact Or.inl rfl | exact Or.inr rfl)) (qgs_cons (qg_name (i := 3) sc_p_is_ask.nd rfl (by first | exact Or.inl rfl | exact Or.inr rfl)) (qgs_cons (qg_name (i := 4) sc_p_is_ask.nd rfl (by first | exact Or.inl rfl | exact Or.inr rfl)) qgs_nil)))))
      (qss_one (qs_ret (qe_and (qe_call ft O_p_is_count rfl (hr.mono (by decide)) (by rfl) (qa_cons (qe_name (pv 2)) qa_nil)) (qe_and (qe_call ft O_p_is_from_one rfl (hr.mono (by decide)) (by rfl) (qa_cons (qe_name (pv 3)) qa_nil)) (qe_and (qe_call ft O_p_is_count rfl (hr.mono (by decide)) (by rfl) (qa_cons (qe_name (pv 4)) qa_nil)) (qe_one (qe_cmp op_le ok_le (qe_op (op_addA ft) ok_add (qe_name (pv 2)) (qe_name (pv 3))) (qe_name (pv 1)) (nomark _)))))))))))
def d_p_refuse_no_asks : DS :=
    (ifD (orT (notT (boolT (callG gIsi [(nameD 0), (conD (.ty "list"))]))) (notT (boolT (callG gAll [(compD (iterE (nameD 0)) (gNameD 2) yesT (callD D_p_is_ask [(nameD 2), (nameD 1)]) [2] [1])]))))
    (raiseD "NoAsk")
    nextD)
def D_p_refuse_no_asks : DF := bodyF 3 d_p_refuse_no_asks
theorem okX_p_refuse_no_asks {P : Program} {w : World} {K : PySem.W.Frag} {mg : Str → Option Value} {base : Heap} (T : Txt K mg) : Ok P w K mg base (L2.CX P w) "refuse_no_asks" s_p_refuse_no_asks 5 ["things", "tracks"] (spP K mg 2 D_p_refuse_no_asks) := by
  have O_p_is_ask := ok_p_is_ask (P := P) (w := w) (base := base) T
  exact T.h_p_refuse_no_asks.okDX (N := n_p_refuse_no_asks) (g := d_p_refuse_no_asks) sc_p_refuse_no_asks (fun f cdv A outer s H E F hr ft => (fun tk => (qss_one (qs_if (PW.pt (qw_or (qt_not (qt_val (qe_callB' (ca_isi ft) ok_isi (by rfl) T.m_isinstance (by decide +kernel) (qa_cons (qe_name (pv 0)) (qa_cons (qe_ty (by rfl) T.m_list (by decide +kernel)) qa_nil))))) (qw_or1 (qt_not (qt_val (qe_callB' (ca_all ft rfl) ok_all (by rfl) T.m_all (by decide +kernel) (qa_cons (qe_lc (own := [("thing", 2)]) (zs := [1]) (by rfl) sc_p_refuse_no_asks.nd (qi_seq ft (qe_name (pv 0))) (blkOk_by (own := [("thing", 2)]) (N := n_p_refuse_no_asks) (sc := defScope s_p_refuse_no_asks) (by decide +kernel)) (fun _ _ _ _ _ _ gn1 => (qg_name (i := 2) sc_p_refuse_no_asks.nd rfl (by first | exact Or.inl rfl | exact Or.inr rfl))) (fun _ _ _ _ _ _ gn1 => qts_nil) (fun _ _ _ _ _ _ gn1 => (qe_call (Fit.blk ft gn1) O_p_is_ask gn1.z (hr.mono (by decide)) (by rfl) (qa_cons (qe_name (pv 2)) (qa_cons (qe_name (pv 1)) qa_nil))))) qa_nil)))))))
      (qss_one (qs_raise rfl tk (pmk_own PySem.F.excBase_ValueError T.e_NoAsk.xi T.e_NoAsk.g T.e_NoAsk.k (raises_own T.e_NoAsk.b T.e_NoAsk.t) (by rfl)) (fun _ _ _ h => h)))
      qss_nil))) (takes_of rfl rfl rfl rfl))
def d_p_stretch_of : DS :=
    (seqD (setD 4 (lift2 gAdd (callG gSum [(sliceD (nameD 0) partN (partD (nameD 1)))]) (lift2 gMul (nameD 3) (nameD 1))))
    (retD (tupD [(nameD 4), (lift2 gAdd (callG gSum [(sliceD (nameD 0) (partD (nameD 1)) (partD (lift2 gAdd (nameD 1) (nameD 2))))]) (lift2 gMul (nameD 3) (lift2 gSub (nameD 2) (conD (.int 1)))))])))
def D_p_stretch_of : DF := bodyF 5 d_p_stretch_of
theorem ok_p_stretch_of {P : Program} {w : World} {K : PySem.W.Frag} {mg : Str → Option Value} {base : Heap} (T : Txt K mg) : Ok P w K mg base CX0 "stretch_of" s_p_stretch_of 1 ["sizes", "first", "many", "gap"] (sp0 K mg 4 D_p_stretch_of) := by
  exact T.h_p_stretch_of.okD (N := n_p_stretch_of) (g := d_p_stretch_of) sc_p_stretch_of (fun f cdv A outer s H E F hr ft => (qss_cons (qs_set (i := 4) sc_p_stretch_of.nd rfl (by first | exact Or.inl rfl | exact Or.inr rfl) (qe_op (op_addA ft) ok_add (qe_callB' (ca_sum ft rfl) ok_sum (by rfl) T.m_sum (by decide +kernel) (qa_cons (qe_slice ft (qe_name (pv 0)) qo_none (qo_some (qe_name (pv 1)))) qa_nil)) (qe_op op_mulA ok_mul (qe_name (pv 3)) (qe_name (pv 1)))))
      (qss_one (qs_ret (qe_tup (qa_cons (qe_name (pv 4)) (qa_cons (qe_op (op_addA ft) ok_add (qe_callB' (ca_sum ft rfl) ok_sum (by rfl) T.m_sum (by decide +kernel) (qa_cons (qe_slice ft (qe_name (pv 0)) (qo_some (qe_name (pv 1))) (qo_some (qe_op (op_addA ft) ok_add (qe_name (pv 1)) (qe_name (pv 2))))) qa_nil)) (qe_op op_mulA ok_mul (qe_name (pv 3)) (qe_op op_sub ok_sub (qe_name (pv 2)) qe_int))) qa_nil)))))))
def d_p_grown : DS :=
    (seqD (setD 4 (lift2 gMul (lstD [(conD (.int 0))]) (callG gLen [(nameD 0)])))
    (seqD (forS (iterE (nameD 2)) (gTupD 3 (gConsD (gNameD 5) (gConsD (gNameD 6) (gConsD (gNameD 7) gNilD))))
    (seqD (asgD (gTupD 2 (gConsD (gNameD 8) (gConsD (gNameD 9) gNilD))) (callD D_p_stretch_of [(nameD 1), (nameD 5), (nameD 6), (nameD 3)]))
    (seqD (setD 10 (compD (iterG gR2 [(nameD 5), (lift2 gAdd (nameD 5) (nameD 6))]) (gNameD 11) (notT (boolT (callD D_p_is_whole [(lift2 gIx (nameD 0) (nameD 11))]))) (nameD 11) [11] [0]))
    (seqD (setD 12 (callG gMax2 [(conD (.int 0)), (lift2 gSub (nameD 7) (nameD 9))]))
    (forS (iterG gZip [(nameD 10), (callD D_p_running_parts [(nameD 12), (lift2 gMul (lstD [(conD (.int 1))]) (callG gLen [(nameD 10)]))])]) (gTupD 2 (gConsD (gNameD 11) (gConsD (gNameD 13) gNilD)))
    (setIxD 4 (callG gMax2 [(ixND 4 (nameD 11)), (nameD 13)]) (nameD 11)))))))
    (retD (compD (iterG gZip [(nameD 1), (nameD 4)]) (gTupD 2 (gConsD (gNameD 7) (gConsD (gNameD 14) gNilD))) yesT (lift2 gAdd (nameD 7) (nameD 14)) [7, 14] []))))
def D_p_grown : DF := bodyF 15 d_p_grown
theorem ok_p_grown {P : Program} {w : World} {K : PySem.W.Frag} {mg : Str → Option Value} {base : Heap} (T : Txt K mg) : Ok P w K mg base CX0 "grown" s_p_grown 2 ["tracks", "sizes", "asks", "gap"] (sp0 K mg 4 D_p_grown) := by
  have O_p_stretch_of := ok_p_stretch_of (P := P) (w := w) (base := base) T
  have O_p_running_parts := ok_p_running_parts (P := P) (w := w) (base := base) T
  have O_p_is_whole := ok_p_is_whole (P := P) (w := w) (base := base) T
  exact T.h_p_grown.okD (N := n_p_grown) (g := d_p_grown) sc_p_grown (fun f cdv A outer s H E F hr ft => (qss_cons (qs_set (i := 4) sc_p_grown.nd rfl (by first | exact Or.inl rfl | exact Or.inr rfl) (qe_op op_mulA ok_mul (qe_lst (qa_cons qe_int qa_nil)) (qe_callB' (ca_len ft) ok_len (by rfl) T.m_len (by decide +kernel) (qa_cons (qe_name (pv 0)) qa_nil))))
      (qss_cons (qs_for PassesOwn.never (by rfl) (qi_seq ft (qe_name (pv 2))) (qg_tup ft rfl (qgs_cons (qg_name (i := 5) sc_p_grown.nd rfl (by first | exact Or.inl rfl | exact Or.inr rfl)) (qgs_cons (qg_name (i := 6) sc_p_grown.nd rfl (by first | exact Or.inl rfl | exact Or.inr rfl)) (qgs_cons (qg_name (i := 7) sc_p_grown.nd rfl (by first | exact Or.inl rfl | exact Or.inr rfl)) qgs_nil))))
      (qss_cons (qs_asg (qe_call ft O_p_stretch_of rfl (hr.mono (by decide)) (by rfl) (qa_cons (qe_name (pv 1)) (qa_cons (qe_name (pv 5)) (qa_cons (qe_name (pv 6)) (qa_cons (qe_name (pv 3)) qa_nil))))) (qg_tup ft rfl (qgs_cons (qg_name (i := 8) sc_p_grown.nd rfl (by first | exact Or.inl rfl | exact Or.inr rfl)) (qgs_cons (qg_name (i := 9) sc_p_grown.nd rfl (by first | exact Or.inl rfl | exact Or.inr rfl)) qgs_nil))))
      (qss_cons (qs_setLc (i := 10) (own := [("at", 11)]) (zs := [0]) (by rfl) sc_p_grown.nd rfl rfl (sw_true rfl rfl rfl (by decide +kernel)) (qi_range2 (by rfl) T.m_range (qa_cons (qe_name (pv 5)) (qa_cons (qe_op (op_addA ft) ok_add (qe_name (pv 5)) (qe_name (pv 6))) qa_nil))) (blkOk_by (own := [("at", 11)]) (N := n_p_grown) (sc := defScope s_p_grown) (by decide +kernel)) (fun _ _ _ _ _ _ gn1 => (qg_name (i := 11) sc_p_grown.nd rfl (by first | exact Or.inl rfl | exact Or.inr rfl))) (fun _ _ _ _ _ _ gn1 => (qts_one (qt_not (qt_val (qe_call (Fit.blk ft gn1) O_p_is_whole gn1.z (hr.mono (by decide)) (by rfl) (qa_cons (qe_ix (Fit.blk ft gn1) (qe_name (pv 0)) (qe_name (pv 11))) qa_nil)))))) (fun _ _ _ _ _ _ gn1 => (qe_name (pv 11))))
      (qss_cons (qs_set (i := 12) sc_p_grown.nd rfl (by first | exact Or.inl rfl | exact Or.inr rfl) (qe_callB' (call_max2 rfl) ok_max2 (by rfl) T.m_max (by decide +kernel) (qa_cons qe_int (qa_cons (qe_op op_sub ok_sub (qe_name (pv 7)) (qe_name (pv 9))) qa_nil))))
      (qss_one (qs_for PassesOwn.never (by rfl) (qi_zip ft (by rfl) T.m_zip (qa_cons (qe_name (pv 10)) (qa_cons (qe_call ft O_p_running_parts rfl (hr.mono (by decide)) (by rfl) (qa_cons (qe_name (pv 12)) (qa_cons (qe_op op_mulA ok_mul (qe_lst (qa_cons qe_int qa_nil)) (qe_callB' (ca_len ft) ok_len (by rfl) T.m_len (by decide +kernel) (qa_cons (qe_name (pv 10)) qa_nil))) qa_nil))) qa_nil))) (qg_tup ft rfl (qgs_cons (qg_name (i := 11) sc_p_grown.nd rfl (by first | exact Or.inl rfl | exact Or.inr rfl)) (qgs_cons (qg_name (i := 13) sc_p_grown.nd rfl (by first | exact Or.inl rfl | exact Or.inr rfl)) qgs_nil)))
      (qss_one (qs_setIx (pv 4) (qe_name (pv 11)) (qe_callB' (call_max2 rfl) ok_max2 (by rfl) T.m_max (by decide +kernel) (qa_cons (qe_ixN ft (pv 4) (qe_name (pv 11))) (qa_cons (qe_name (pv 13)) qa_nil)))))))))))
      (qss_one (qs_ret (qe_lc (own := [("size", 7), ("growth", 14)]) (zs := []) (by rfl) sc_p_grown.nd (qi_zip ft (by rfl) T.m_zip (qa_cons (qe_name (pv 1)) (qa_cons (qe_name (pv 4)) qa_nil))) (blkOk_by (own := [("size", 7), ("growth", 14)]) (N := n_p_grown) (sc := defScope s_p_grown) (by decide +kernel)) (fun _ _ _ _ _ _ gn1 => (qg_tup (Fit.blk ft gn1) rfl (qgs_cons (qg_name (i := 7) sc_p_grown.nd rfl (by first | exact Or.inl rfl | exact Or.inr rfl)) (qgs_cons (qg_name (i := 14) sc_p_grown.nd rfl (by first | exact Or.inl rfl | exact Or.inr rfl)) qgs_nil)))) (fun _ _ _ _ _ _ gn1 => qts_nil) (fun _ _ _ _ _ _ gn1 => (qe_op (op_addA (Fit.blk ft gn1)) ok_add (qe_name (pv 7)) (qe_name (pv 14))))))))))
def d_p_track_sizes : DS :=
    (seqD (exprD (callD D_p_refuse_no_tracks [(nameD 0)]))
    (seqD (exprD (callD D_p_refuse_no_asks [(nameD 1), (callG gLen [(nameD 0)])]))
    (seqD (exprD (callD D_p_refuse_no_counts [(lstD [(nameD 2)])]))
    (seqD (setD 3 (compD (iterE (nameD 0)) (gNameD 4) yesT (ifV (boolT (callD D_p_is_whole [(nameD 4)])) (nameD 4) (conD (.int 0))) [4] []))
    (seqD (forS (iterE (callG gSortSet [(compD (iterE (nameD 1)) (gNameD 6) yesT (lift2 gIx (nameD 6) (conD (.int 1))) [6] [])])) (gNameD 5)
    (setD 3 (call0D D_p_grown [(nameD 0), (nameD 3), (compD (iterE (nameD 1)) (gNameD 6) (boolT (lift2 (gEq false) (lift2 gIx (nameD 6) (conD (.int 1))) (nameD 5))) (nameD 6) [6] [5]), (nameD 2)])))
    (retNameD 3))))))
def D_p_track_sizes : DF := bodyF 7 d_p_track_sizes
theorem okX_p_track_sizes {P : Program} {w : World} {K : PySem.W.Frag} {mg : Str → Option Value} {base : Heap} (T : Txt K mg) : Ok P w K mg base (L2.CX P w) "track_sizes" s_p_track_sizes 7 ["tracks", "asks", "gap"] (spP K mg 3 D_p_track_sizes) := by
  have OX_p_refuse_no_tracks := okX_p_refuse_no_tracks (P := P) (w := w) (base := base) T
  have OX_p_refuse_no_asks := okX_p_refuse_no_asks (P := P) (w := w) (base := base) T
  have OX_p_refuse_no_counts := okX_p_refuse_no_counts (P := P) (w := w) (base := base) T
  have O_p_grown := ok_p_grown (P := P) (w := w) (base := base) T
  have O_p_is_whole := ok_p_is_whole (P := P) (w := w) (base := base) T
  exact T.h_p_track_sizes.okDX (N := n_p_track_sizes) (g := d_p_track_sizes) sc_p_track_sizes (fun f cdv A outer s H E F hr ft => (fun tk => (qss_cons (qs_expr (qe_callX ft OX_p_refuse_no_tracks (hr.mono (by decide)) (by rfl) tk (qa_cons (qe_name (pv 0)) qa_nil)))
      (qss_cons (qs_expr (qe_callX ft OX_p_refuse_no_asks (hr.mono (by decide)) (by rfl) tk (qa_cons (qe_name (pv 1)) (qa_cons (qe_callB' (ca_len ft) ok_len (by rfl) T.m_len (by decide +kernel) (qa_cons (qe_name (pv 0)) qa_nil)) qa_nil))))
      (qss_cons (qs_expr (qe_callX ft OX_p_refuse_no_counts (hr.mono (by decide)) (by rfl) tk (qa_cons (qe_lst (qa_cons (qe_name (pv 2)) qa_nil)) qa_nil)))
      (qss_cons (qs_setLc (i := 3) (own := [("track", 4)]) (zs := []) (by rfl) sc_p_track_sizes.nd rfl rfl (sw_true rfl rfl rfl (by decide +kernel)) (qi_seq ft (qe_name (pv 0))) (blkOk_by (own := [("track", 4)]) (N := n_p_track_sizes) (sc := defScope s_p_track_sizes) (by decide +kernel)) (fun _ _ _ _ _ _ gn1 => (qg_name (i := 4) sc_p_track_sizes.nd rfl (by first | exact Or.inl rfl | exact Or.inr rfl))) (fun _ _ _ _ _ _ gn1 => qts_nil) (fun _ _ _ _ _ _ gn1 => (qe_if (qt_val (qe_call (Fit.blk ft gn1) O_p_is_whole gn1.z (hr.mono (by decide)) (by rfl) (qa_cons (qe_name (pv 4)) qa_nil))) (qe_name (pv 4)) qe_int)))
      (qss_cons (qs_for (passes_of rfl) (by rfl) (qi_seq ft (qe_sset ft rfl (by rfl) T.m_sorted (by rfl) T.m_set (qa_cons (qe_lc (own := [("ask", 6)]) (zs := []) (by rfl) sc_p_track_sizes.nd (qi_seq ft (qe_name (pv 1))) (blkOk_by (own := [("ask", 6)]) (N := n_p_track_sizes) (sc := defScope s_p_track_sizes) (by decide +kernel)) (fun _ _ _ _ _ _ gn1 => (qg_name (i := 6) sc_p_track_sizes.nd rfl (by first | exact Or.inl rfl | exact Or.inr rfl))) (fun _ _ _ _ _ _ gn1 => qts_nil) (fun _ _ _ _ _ _ gn1 => (qe_ix (Fit.blk ft gn1) (qe_name (pv 6)) qe_int))) qa_nil))) (qg_name (i := 5) sc_p_track_sizes.nd rfl (by first | exact Or.inl rfl | exact Or.inr rfl))
      (qss_one (qs_set (i := 3) sc_p_track_sizes.nd rfl (by first | exact Or.inl rfl | exact Or.inr rfl) (qe_call0 ft O_p_grown (hr.mono (by decide)) (by rfl) (qa_cons (qe_name (pv 0)) (qa_cons (qe_name (pv 3)) (qa_cons (qe_lc (own := [("ask", 6)]) (zs := [5]) (by rfl) sc_p_track_sizes.nd (qi_seq ft (qe_name (pv 1))) (blkOk_by (own := [("ask", 6)]) (N := n_p_track_sizes) (sc := defScope s_p_track_sizes) (by decide +kernel)) (fun _ _ _ _ _ _ gn1 => (qg_name (i := 6) sc_p_track_sizes.nd rfl (by first | exact Or.inl rfl | exact Or.inr rfl))) (fun _ _ _ _ _ _ gn1 => (qts_one (qt_cmp (op_eqA (Fit.blk ft gn1) hr.units) ok_eq (qe_ix (Fit.blk ft gn1) (qe_name (pv 6)) qe_int) (qe_name (pv 5)) (nomark _)))) (fun _ _ _ _ _ _ gn1 => (qe_name (pv 6)))) (qa_cons (qe_name (pv 2)) qa_nil))))))))
      (qss_one (qs_retName (pv 3))))))))) (takes_of rfl rfl rfl rfl))
def d_cell_at : DS :=
    (seqD (ifD (boolT (lift2 gLt (nameD 1) (callG gLen [(nameD 0)])))
    (retD (lift2 gIx (nameD 0) (nameD 1)))
    nextD)
    (retD (conD (.int 0))))
def D_cell_at : DF := bodyF 2 d_cell_at
theorem ok_cell_at {P : Program} {w : World} {K : PySem.W.Frag} {mg : Str → Option Value} {base : Heap} (T : Txt K mg) : Ok P w K mg base CX0 "_law_cell_at" s_cell_at 1 ["_law_script", "_law_k"] (sp0 K mg 2 D_cell_at) := by
  exact T.h_cell_at.okD (N := n_cell_at) (g := d_cell_at) sc_cell_at (fun f cdv A outer s H E F hr ft => (qss_cons (qs_if (qt_cmp op_lt ok_lt (qe_name (pv 1)) (qe_callB' (ca_len ft) ok_len (by rfl) T.m_len (by decide +kernel) (qa_cons (qe_name (pv 0)) qa_nil)) (nomark _))
      (qss_one (qs_ret (qe_ix ft (qe_name (pv 0)) (qe_name (pv 1)))))
      qss_nil)
      (qss_one (qs_ret qe_int))))
def d_mixed : DS :=
    (seqD (setD 2 (lift2 gAdd (lift2 gMod (nameD 0) (conD (.int 2147483629))) (lift2 gMul (lift2 gDiv (nameD 0) (conD (.int 2147483629))) (conD (.int 30011)))))
    (seqD (setD 2 (lift2 gMod (lift2 gMul (lift2 gAdd (lift2 gAdd (nameD 2) (lift2 gMul (conD (.int 69621)) (nameD 1))) (conD (.int 1))) (conD (.int 48271))) (conD (.int 2147483629))))
    (seqD (setD 2 (lift2 gMod (lift2 gMul (nameD 2) (lift2 gAdd (lift2 gAdd (lift2 gDiv (nameD 2) (conD (.int 907))) (conD (.int 16831))) (nameD 1))) (conD (.int 2147483587))))
    (retD (lift2 gMod (lift2 gMul (nameD 2) (lift2 gAdd (lift2 gDiv (nameD 2) (conD (.int 1201))) (conD (.int 30011)))) (conD (.int 2147483563)))))))
def D_mixed : DF := bodyF 3 d_mixed
theorem ok_mixed {P : Program} {w : World} {K : PySem.W.Frag} {mg : Str → Option Value} {base : Heap} (T : Txt K mg) : Ok P w K mg base CX0 "_law_mixed" s_mixed 1 ["_law_cell", "_law_k"] (sp0 K mg 2 D_mixed) := by
  exact T.h_mixed.okD (N := n_mixed) (g := d_mixed) sc_mixed (fun f cdv A outer s H E F hr ft => (qss_cons (qs_set (i := 2) sc_mixed.nd rfl (by first | exact Or.inl rfl | exact Or.inr rfl) (qe_op (op_addA ft) ok_add (qe_op op_mod ok_mod (qe_name (pv 0)) qe_int) (qe_op op_mulA ok_mul (qe_op op_fdivW ok_div (qe_name (pv 0)) qe_int) qe_int)))
      (qss_cons (qs_set (i := 2) sc_mixed.nd rfl (by first | exact Or.inl rfl | exact Or.inr rfl) (qe_op op_mod ok_mod (qe_op op_mulA ok_mul (qe_op (op_addA ft) ok_add (qe_op (op_addA ft) ok_add (qe_name (pv 2)) (qe_op op_mulA ok_mul qe_int (qe_name (pv 1)))) qe_int) qe_int) qe_int))
      (qss_cons (qs_set (i := 2) sc_mixed.nd rfl (by first | exact Or.inl rfl | exact Or.inr rfl) (qe_op op_mod ok_mod (qe_op op_mulA ok_mul (qe_name (pv 2)) (qe_op (op_addA ft) ok_add (qe_op (op_addA ft) ok_add (qe_op op_fdivW ok_div (qe_name (pv 2)) qe_int) qe_int) (qe_name (pv 1)))) qe_int))
      (qss_one (qs_ret (qe_op op_mod ok_mod (qe_op op_mulA ok_mul (qe_name (pv 2)) (qe_op (op_addA ft) ok_add (qe_op op_fdivW ok_div (qe_name (pv 2)) qe_int) qe_int)) qe_int)))))))
def d_next : DS :=
    (seqD (ifD (boolT (lift2 gGe (ixND 0 (conD (.int 0))) (lift2 gPow (conD (.int 10)) (conD (.int 18)))))
    (seqD (setD 2 (lift2 gMod (ixND 0 (conD (.int 0))) (nameD 1)))
    (seqD (setIxD 0 (lift2 gDiv (ixND 0 (conD (.int 0))) (nameD 1)) (conD (.int 0)))
    (retNameD 2)))
    nextD)
    (seqD (setIxD 0 (lift2 gAdd (ixND 0 (conD (.int 2))) (conD (.int 1))) (conD (.int 2)))
    (retD (lift2 gMod (callD D_mixed [(ixND 0 (conD (.int 1))), (ixND 0 (conD (.int 2)))]) (nameD 1)))))
def D_next : DF := bodyB 3 d_next
theorem ok_next {P : Program} {w : World} {K : PySem.W.Frag} {mg : Str → Option Value} {base : Heap} (T : Txt K mg) : Ok P w K mg base CX0 "_law_next" s_next 2 ["_law_source", "_law_many"] (spB K mg 2 D_next) := by
  have O_mixed := ok_mixed (P := P) (w := w) (base := base) T
  exact T.h_next.okB (N := n_next) (g := d_next) sc_next (by decide) (fun f cdv A outer s H E F p hr ft => (qss_cons (qs_if (qt_cmp op_ge ok_ge (qe_ixN ft (pv 0) qe_int) (qe_op op_pow ok_pow qe_int qe_int) (nomark _))
      (qss_cons (qs_set (i := 2) sc_next.nd rfl (by first | exact Or.inl rfl | exact Or.inr rfl) (qe_op op_mod ok_mod (qe_ixN ft (pv 0) qe_int) (qe_name (pv 1))))
      (qss_cons (qs_setIx (pv 0) qe_int (qe_op op_fdivW ok_div (qe_ixN ft (pv 0) qe_int) (qe_name (pv 1))))
      (qss_one (qs_retName (pv 2)))))
      qss_nil)
      (qss_cons (qs_setIx (pv 0) qe_int (qe_op (op_addA ft) ok_add (qe_ixN ft (pv 0) qe_int) qe_int))
      (qss_one (qs_ret (qe_op op_mod ok_mod (qe_call ft O_mixed rfl (hr.mono (by decide)) (by rfl) (qa_cons (qe_ixN ft (pv 0) qe_int) (qa_cons (qe_ixN ft (pv 0) qe_int) qa_nil))) (qe_name (pv 1))))))))
def d_word : DS :=
    (seqD (tryD (exprD (callD D_p_track_sizes [(nameD 0), (nameD 1), (nameD 2)])) 3 cl_NestError
    (seqD (setD 4 (lstD [(isED 3 sub_NoTrack), (isED 3 sub_NoAsk), (isED 3 sub_NoNumber)]))
    (seqD (ifD (orT (boolT (lift2 (gEq true) (methD gCountF (nameD 4) [(conD (.bl true))]) (conD (.int 1)))) (notT (boolT (isED 3 sub_ValueError))))
    (retD (conD (.str (Str.ofString "several"))))
    nextD)
    (retD (lift2 gIx (lstD [(conD (.str (Str.ofString "track"))), (conD (.str (Str.ofString "ask"))), (conD (.str (Str.ofString "number")))]) (methD gIndexF (nameD 4) [(conD (.bl true))]))))))
    (retD (conD (.str (Str.ofString "told")))))
def D_word : DF := bodyF 5 d_word
theorem ok_word {P : Program} {w : World} {K : PySem.W.Frag} {mg : Str → Option Value} {base : Heap} (T : Txt K mg) : Ok P w K mg base CX0 "_law_word" s_word 8 ["_law_tracks", "_law_asks", "_law_gap"] (sp0 K mg 3 D_word) := by
  have OX_p_track_sizes := okX_p_track_sizes (P := P) (w := w) (base := base) T
  exact T.h_word.okD (N := n_word) (g := d_word) sc_word (fun f cdv A outer s H E F hr ft => (qss_cons (qs_try_as (i := 3) (cl := cl_NestError) ft rfl rfl sc_word.nd rfl rfl ⟨rfl, by decide, .inl (gC_NestError T)⟩ (caught_NestError T) (fun W pn xe tk po => (qss_one (qs_expr (qe_callX ⟨ft.k, ft.m⟩ OX_p_track_sizes (hr.mono (by decide)) (by rfl) tk (qa_cons (qe_name (pv 0)) (qa_cons (qe_name (pv 1)) (qa_cons (qe_name (pv 2)) qa_nil)))))))
      (fun a oe pn c hcl hz hf => (qss_cons (qs_set (i := 4) sc_word.nd rfl (by first | exact Or.inl rfl | exact Or.inr rfl) (qe_lst (qa_cons (qe_isE (cv := V.ref (clsA mg "NoTrack")) (cw := Value.ref (clsA mg "NoTrack")) ⟨ft.k, ft.m⟩ (exc_of T hcl) hz hf (fun b h => sub_NoTrack_of T h) (fun u h => h) (by rfl) T.m_isinstance (pv 3) (pe_glob (v := V.ref (clsA mg "NoTrack")) (u := Value.ref (clsA mg "NoTrack")) (by rfl) (gC_NoTrack T) (by rfl))) (qa_cons (qe_isE (cv := V.ref (clsA mg "NoAsk")) (cw := Value.ref (clsA mg "NoAsk")) ⟨ft.k, ft.m⟩ (exc_of T hcl) hz hf (fun b h => sub_NoAsk_of T h) (fun u h => h) (by rfl) T.m_isinstance (pv 3) (pe_glob (v := V.ref (clsA mg "NoAsk")) (u := Value.ref (clsA mg "NoAsk")) (by rfl) (gC_NoAsk T) (by rfl))) (qa_cons (qe_isE (cv := V.ref (clsA mg "NoNumber")) (cw := Value.ref (clsA mg "NoNumber")) ⟨ft.k, ft.m⟩ (exc_of T hcl) hz hf (fun b h => sub_NoNumber_of T h) (fun u h => h) (by rfl) T.m_isinstance (pv 3) (pe_glob (v := V.ref (clsA mg "NoNumber")) (u := Value.ref (clsA mg "NoNumber")) (by rfl) (gC_NoNumber T) (by rfl))) qa_nil)))))
      (qss_cons (qs_if (PW.pt (qw_or (qt_cmp (op_neA ⟨ft.k, ft.m⟩ hr.units) ok_ne (qe_meth ⟨ft.k, ft.m⟩ PySem.F.slot_list_count PySem.F.type_list_count (ca_countF ⟨ft.k, ft.m⟩) ok_countF (qe_name (pv 4)) (qa_cons qe_bl qa_nil)) qe_int (nomark _)) (qw_or1 (qt_not (qt_val (qe_isE (cv := V.ty "ValueError") (cw := Value.type "ValueError") ⟨ft.k, ft.m⟩ (exc_of T hcl) hz hf (fun b h => sub_ValueError_of T h) (fun u h => h) (by rfl) T.m_isinstance (pv 3) (pe_bltn (v := V.ty "ValueError") (u := Value.type "ValueError") (by rfl) T.m_ValueError (by decide +kernel) (by rfl))))))))
      (qss_one (qs_ret qe_str))
      qss_nil)
      (qss_one (qs_ret (qe_ix ⟨ft.k, ft.m⟩ (qe_lst (qa_cons qe_str (qa_cons qe_str (qa_cons qe_str qa_nil)))) (qe_meth ⟨ft.k, ft.m⟩ PySem.F.slot_list_index PySem.F.type_list_index (ca_indexF ⟨ft.k, ft.m⟩) ok_indexF (qe_name (pv 4)) (qa_cons qe_bl qa_nil)))))))))
      (qss_one (qs_ret qe_str))))
def d_bad_track : DS :=
    (seqD (setD 1 (lstD [(lift2 gSub (conD (.int 0)) (conD (.int 1))), (conD (.bl true)), (conD .non), (conD (.str (Str.ofString "Fit"))), (conD (.str (Str.ofString ""))), (conD (.str (Str.ofString "fits"))), (tupD [(conD (.str (Str.ofString "share"))), (conD (.int 0))]), (tupD [(conD (.str (Str.ofString "share"))), (lift2 gSub (conD (.int 0)) (conD (.int 2)))]), (tupD [(conD (.str (Str.ofString "share")))]), (tupD [(conD (.str (Str.ofString "share"))), (conD (.int 1)), (conD (.int 1))])]))
    (seqD (setD 1 (lift2 gAdd (nameD 1) (lstD [(tupD [(conD (.str (Str.ofString "shares"))), (conD (.int 1))]), (tupD [(conD (.str (Str.ofString "share"))), (conD (.bl true))]), (tupD [(conD (.str (Str.ofString "share"))), (conD (.str (Str.ofString "1")))]), (lstD [(conD (.str (Str.ofString "share"))), (conD (.int 1))]), (tupD []), (tupD [(conD (.str (Str.ofString "fit"))), (conD (.int 1))]), (conD (.str (Str.ofString "share")))])))
    (retD (lift2 gIx (nameD 1) (callBD D_next 0 [(conD (.int 17))])))))
def D_bad_track : DF := bodyB 2 d_bad_track
theorem ok_bad_track {P : Program} {w : World} {K : PySem.W.Frag} {mg : Str → Option Value} {base : Heap} (T : Txt K mg) : Ok P w K mg base CX0 "_law_bad_track" s_bad_track 3 ["_law_source"] (spB K mg 1 D_bad_track) := by
  have O_next := ok_next (P := P) (w := w) (base := base) T
  exact T.h_bad_track.okB (N := n_bad_track) (g := d_bad_track) sc_bad_track (by decide) (fun f cdv A outer s H E F p hr ft => (qss_cons (qs_set (i := 1) sc_bad_track.nd rfl (by first | exact Or.inl rfl | exact Or.inr rfl) (qe_lst (qa_cons (qe_op op_sub ok_sub qe_int qe_int) (qa_cons qe_bl (qa_cons qe_non (qa_cons qe_str (qa_cons qe_str (qa_cons qe_str (qa_cons (qe_tup (qa_cons qe_str (qa_cons qe_int qa_nil))) (qa_cons (qe_tup (qa_cons qe_str (qa_cons (qe_op op_sub ok_sub qe_int qe_int) qa_nil))) (qa_cons (qe_tup (qa_cons qe_str qa_nil)) (qa_cons (qe_tup (qa_cons qe_str (qa_cons qe_int (qa_cons qe_int qa_nil)))) qa_nil))))))))))))
      (qss_cons (qs_set (i := 1) sc_bad_track.nd rfl (by first | exact Or.inl rfl | exact Or.inr rfl) (qe_op (op_addA ft) ok_add (qe_name (pv 1)) (qe_lst (qa_cons (qe_tup (qa_cons qe_str (qa_cons qe_int qa_nil))) (qa_cons (qe_tup (qa_cons qe_str (qa_cons qe_bl qa_nil))) (qa_cons (qe_tup (qa_cons qe_str (qa_cons qe_str qa_nil))) (qa_cons (qe_lst (qa_cons qe_str (qa_cons qe_int qa_nil))) (qa_cons (qe_tup qa_nil) (qa_cons (qe_tup (qa_cons qe_str (qa_cons qe_int qa_nil))) (qa_cons qe_str qa_nil))))))))))
      (qss_one (qs_ret (qe_ix ft (qe_name (pv 1)) (qe_callB ft O_next (hr.mono (by decide)) (by rfl) (pv 0) (qa_cons qe_int qa_nil))))))))
def d_bad_ask : DS :=
    (seqD (setD 2 (lstD [(tupD [(conD (.int 0)), (conD (.int 0)), (conD (.int 5))]), (tupD [(conD (.int 0)), (lift2 gAdd (nameD 1) (conD (.int 1))), (conD (.int 5))]), (tupD [(nameD 1), (conD (.int 1)), (conD (.int 5))]), (tupD [(lift2 gSub (conD (.int 0)) (conD (.int 1))), (conD (.int 1)), (conD (.int 5))]), (tupD [(conD (.int 0)), (conD (.int 1)), (lift2 gSub (conD (.int 0)) (conD (.int 1)))]), (tupD [(conD (.int 0)), (conD (.int 1))]), (tupD [(conD (.int 0)), (conD (.int 1)), (conD (.int 5)), (conD (.int 5))]), (conD .non)]))
    (seqD (setD 2 (lift2 gAdd (nameD 2) (lstD [(lstD [(conD (.int 0)), (conD (.int 1)), (conD (.int 5))]), (tupD [(conD (.bl true)), (conD (.int 1)), (conD (.int 5))]), (tupD [(conD (.int 0)), (conD (.bl true)), (conD (.int 5))]), (tupD [(conD (.int 0)), (conD (.int 1)), (conD (.bl false))]), (tupD [(conD (.str (Str.ofString "0"))), (conD (.int 1)), (conD (.int 5))]), (tupD [(conD (.int 0)), (conD (.int 1)), (conD .non)]), (tupD []), (conD (.int 5))])))
    (retD (lift2 gIx (nameD 2) (callBD D_next 0 [(conD (.int 16))])))))
def D_bad_ask : DF := bodyB 3 d_bad_ask
theorem ok_bad_ask {P : Program} {w : World} {K : PySem.W.Frag} {mg : Str → Option Value} {base : Heap} (T : Txt K mg) : Ok P w K mg base CX0 "_law_bad_ask" s_bad_ask 3 ["_law_source", "_law_count"] (spB K mg 2 D_bad_ask) := by
  have O_next := ok_next (P := P) (w := w) (base := base) T
  exact T.h_bad_ask.okB (N := n_bad_ask) (g := d_bad_ask) sc_bad_ask (by decide) (fun f cdv A outer s H E F p hr ft => (qss_cons (qs_set (i := 2) sc_bad_ask.nd rfl (by first | exact Or.inl rfl | exact Or.inr rfl) (qe_lst (qa_cons (qe_tup (qa_cons qe_int (qa_cons qe_int (qa_cons qe_int qa_nil)))) (qa_cons (qe_tup (qa_cons qe_int (qa_cons (qe_op (op_addA ft) ok_add (qe_name (pv 1)) qe_int) (qa_cons qe_int qa_nil)))) (qa_cons (qe_tup (qa_cons (qe_name (pv 1)) (qa_cons qe_int (qa_cons qe_int qa_nil)))) (qa_cons (qe_tup (qa_cons (qe_op op_sub ok_sub qe_int qe_int) (qa_cons qe_int (qa_cons qe_int qa_nil)))) (qa_cons (qe_tup (qa_cons qe_int (qa_cons qe_int (qa_cons (qe_op op_sub ok_sub qe_int qe_int) qa_nil)))) (qa_cons (qe_tup (qa_cons qe_int (qa_cons qe_int qa_nil))) (qa_cons (qe_tup (qa_cons qe_int (qa_cons qe_int (qa_cons qe_int (qa_cons qe_int qa_nil))))) (qa_cons qe_non qa_nil))))))))))
      (qss_cons (qs_set (i := 2) sc_bad_ask.nd rfl (by first | exact Or.inl rfl | exact Or.inr rfl) (qe_op (op_addA ft) ok_add (qe_name (pv 2)) (qe_lst (qa_cons (qe_lst (qa_cons qe_int (qa_cons qe_int (qa_cons qe_int qa_nil)))) (qa_cons (qe_tup (qa_cons qe_bl (qa_cons qe_int (qa_cons qe_int qa_nil)))) (qa_cons (qe_tup (qa_cons qe_int (qa_cons qe_bl (qa_cons qe_int qa_nil)))) (qa_cons (qe_tup (qa_cons qe_int (qa_cons qe_int (qa_cons qe_bl qa_nil)))) (qa_cons (qe_tup (qa_cons qe_str (qa_cons qe_int (qa_cons qe_int qa_nil)))) (qa_cons (qe_tup (qa_cons qe_int (qa_cons qe_int (qa_cons qe_non qa_nil)))) (qa_cons (qe_tup qa_nil) (qa_cons qe_int qa_nil)))))))))))
      (qss_one (qs_ret (qe_ix ft (qe_name (pv 2)) (qe_callB ft O_next (hr.mono (by decide)) (by rfl) (pv 0) (qa_cons qe_int qa_nil))))))))
def d_good : DS :=
    (seqD (setD 1 (lstD [(nameD 0), (nameD 0), (conD (.int 0))]))
    (seqD (setD 2 (callBD D_next 1 [(conD (.int 8))]))
    (seqD (setD 3 (callBD D_next 1 [(conD (.int 5))]))
    (seqD (setD 4 (lift2 gAdd (conD (.int 1)) (callBD D_next 1 [(conD (.int 6))])))
    (seqD (setD 5 (compD (iterG gR1 [(nameD 4)]) (gNameD 6) yesT (lift2 gIx (lstD [(conD (.int 7)), (conD (.str (Str.ofString "fit"))), (tupD [(conD (.str (Str.ofString "share"))), (conD (.int 2))])]) (callBD D_next 1 [(conD (.int 3))])) [6] []))
    (seqD (setD 7 (lstD []))
    (seqD (forS (iterG gR1 [(callBD D_next 1 [(conD (.int 5))])]) (gNameD 6)
    (seqD (setD 8 (callBD D_next 1 [(nameD 4)]))
    (exprD (mutD gAppend 7 [(tupD [(nameD 8), (lift2 gAdd (conD (.int 1)) (callBD D_next 1 [(lift2 gSub (nameD 4) (nameD 8))])), (callBD D_next 1 [(conD (.int 40))])])]))))
    (seqD (setD 9 (callBD D_next 1 [(lift2 gPow (conD (.int 10)) (conD (.int 11)))]))
    (seqD (setD 10 (conD (.str (Str.ofString "told"))))
    (seqD (ifD (boolT (lift2 gEqX (lift2 gDiv (nameD 2) (conD (.int 4))) (conD (.int 1))))
    (parD 9 10 [(lift2 gIx (lstD [(lift2 gSub (conD (.int 0)) (conD (.int 1))), (conD .non), (conD (.bl true)), (conD (.str (Str.ofString "1"))), (lstD [(conD (.int 1))])]) (nameD 3)), (conD (.str (Str.ofString "number")))])
    nextD)
    (seqD (ifD (boolT (lift2 gEqX (lift2 gMod (lift2 gDiv (nameD 2) (conD (.int 2))) (conD (.int 2))) (conD (.int 1))))
    (seqD (exprD (mutD gInsert 7 [(callBD D_next 1 [(lift2 gAdd (peekC gLen 7) (conD (.int 1)))]), (callBD D_bad_ask 1 [(nameD 4)])]))
    (seqD (setD 10 (conD (.str (Str.ofString "ask"))))
    (ifD (boolT (lift2 gEqX (nameD 3) (conD (.int 0))))
    (setD 7 (lift2 gIx (lstD [(conD .non), (tupD []), (tupD [(tupD [(conD (.int 0)), (conD (.int 1)), (conD (.int 5))])]), (conD (.int 5)), noDictD]) (callBD D_next 1 [(conD (.int 5))])))
    nextD)))
    nextD)
    (seqD (ifD (boolT (lift2 gEqX (lift2 gMod (nameD 2) (conD (.int 2))) (conD (.int 1))))
    (seqD (setIxD 5 (callBD D_bad_track 1 []) (callBD D_next 1 [(nameD 4)]))
    (seqD (setD 10 (conD (.str (Str.ofString "track"))))
    (ifD (boolT (lift2 gEqX (nameD 3) (conD (.int 1))))
    (setD 5 (lift2 gIx (lstD [(lstD []), (tupD []), (conD .non), (tupD [(conD (.str (Str.ofString "fit")))]), (conD (.str (Str.ofString "fit"))), (conD (.int 5))]) (callBD D_next 1 [(conD (.int 6))])))
    nextD)))
    nextD)
    (seqD (setD 11 (lstD [(nameD 5), (nameD 7)]))
    (seqD (ifD (boolT (peekC (gIsi1 "list") 5))
    (setIxD 11 (peekC gList 5) (conD (.int 0)))
    nextD)
    (seqD (ifD (boolT (peekC (gIsi1 "list") 7))
    (setIxD 11 (peekC gList 7) (conD (.int 1)))
    nextD)
    (retD (andV (lift2 gEqX (callD D_word [(nameD 5), (nameD 7), (nameD 9)]) (nameD 10)) (lift2 gEqX (nameD 11) (lstD [(nameD 5), (nameD 7)])))))))))))))))))))
def D_good : DF := bodyF 12 d_good
theorem ok_good {P : Program} {w : World} {K : PySem.W.Frag} {mg : Str → Option Value} {base : Heap} (T : Txt K mg) : Ok P w K mg base CX0 "_law_good" s_good 9 ["_law_cell"] (sp0 K mg 1 D_good) := by
  have O_next := ok_next (P := P) (w := w) (base := base) T
  have O_bad_track := ok_bad_track (P := P) (w := w) (base := base) T
  have O_bad_ask := ok_bad_ask (P := P) (w := w) (base := base) T
  have O_word := ok_word (P := P) (w := w) (base := base) T
  exact T.h_good.okD (N := n_good) (g := d_good) sc_good (fun f cdv A outer s H E F hr ft => (qss_cons (qs_set (i := 1) sc_good.nd rfl (by first | exact Or.inl rfl | exact Or.inr rfl) (qe_lst (qa_cons (qe_name (pv 0)) (qa_cons (qe_name (pv 0)) (qa_cons qe_int qa_nil)))))
      (qss_cons (qs_set (i := 2) sc_good.nd rfl (by first | exact Or.inl rfl | exact Or.inr rfl) (qe_callB ft O_next (hr.mono (by decide)) (by rfl) (pv 1) (qa_cons qe_int qa_nil)))
      (qss_cons (qs_set (i := 3) sc_good.nd rfl (by first | exact Or.inl rfl | exact Or.inr rfl) (qe_callB ft O_next (hr.mono (by decide)) (by rfl) (pv 1) (qa_cons qe_int qa_nil)))
      (qss_cons (qs_set (i := 4) sc_good.nd rfl (by first | exact Or.inl rfl | exact Or.inr rfl) (qe_op (op_addA ft) ok_add qe_int (qe_callB ft O_next (hr.mono (by decide)) (by rfl) (pv 1) (qa_cons qe_int qa_nil))))
      (qss_cons (qs_setLc (i := 5) (own := [("_law_k", 6)]) (zs := []) (by rfl) sc_good.nd rfl rfl (sw_true rfl rfl rfl (by decide +kernel)) (qi_range1 (by rfl) T.m_range (qa_cons (qe_name (pv 4)) qa_nil)) (blkOk_by (own := [("_law_k", 6)]) (N := n_good) (sc := defScope s_good) (by decide +kernel)) (fun _ _ _ _ _ _ gn1 => (qg_name (i := 6) sc_good.nd rfl (by first | exact Or.inl rfl | exact Or.inr rfl))) (fun _ _ _ _ _ _ gn1 => qts_nil) (fun _ _ _ _ _ _ gn1 => (qe_ix (Fit.blk ft gn1) (qe_lst (qa_cons qe_int (qa_cons qe_str (qa_cons (qe_tup (qa_cons qe_str (qa_cons qe_int qa_nil))) qa_nil)))) (qe_callB (Fit.blk ft gn1) O_next (hr.mono (by decide)) (by rfl) (pv 1) (qa_cons qe_int qa_nil)))))
      (qss_cons (qs_set (i := 7) sc_good.nd rfl (by first | exact Or.inl rfl | exact Or.inr rfl) (qe_lst qa_nil))
      (qss_cons (qs_for PassesOwn.never (by rfl) (qi_range1 (by rfl) T.m_range (qa_cons (qe_callB ft O_next (hr.mono (by decide)) (by rfl) (pv 1) (qa_cons qe_int qa_nil)) qa_nil)) (qg_name (i := 6) sc_good.nd rfl (by first | exact Or.inl rfl | exact Or.inr rfl))
      (qss_cons (qs_set (i := 8) sc_good.nd rfl (by first | exact Or.inl rfl | exact Or.inr rfl) (qe_callB ft O_next (hr.mono (by decide)) (by rfl) (pv 1) (qa_cons (qe_name (pv 4)) qa_nil)))
      (qss_one (qs_expr (qe_mut ft PySem.F.plainAttrs_list PySem.F.slot_list_append PySem.F.type_list_append mt_append ok_append (pv 7) (qa_cons (qe_tup (qa_cons (qe_name (pv 8)) (qa_cons (qe_op (op_addA ft) ok_add qe_int (qe_callB ft O_next (hr.mono (by decide)) (by rfl) (pv 1) (qa_cons (qe_op op_sub ok_sub (qe_name (pv 4)) (qe_name (pv 8))) qa_nil))) (qa_cons (qe_callB ft O_next (hr.mono (by decide)) (by rfl) (pv 1) (qa_cons qe_int qa_nil)) qa_nil)))) qa_nil))))))
      (qss_cons (qs_set (i := 9) sc_good.nd rfl (by first | exact Or.inl rfl | exact Or.inr rfl) (qe_callB ft O_next (hr.mono (by decide)) (by rfl) (pv 1) (qa_cons (qe_op op_pow ok_pow qe_int qe_int) qa_nil)))
      (qss_cons (qs_set (i := 10) sc_good.nd rfl (by first | exact Or.inl rfl | exact Or.inr rfl) qe_str)
      (qss_cons (qs_if (qt_cmp (op_eqX ft hr.units) ok_eqX (qe_op op_fdivW ok_div (qe_name (pv 2)) qe_int) qe_int (nomark _))
      (qss_one (PS.weak (ps_par (i := 9) (j := 10) (by rfl) sc_good.nd rfl rfl (by decide) rfl rfl (qa_cons (qe_ix ft (qe_lst (qa_cons (qe_op op_sub ok_sub qe_int qe_int) (qa_cons qe_non (qa_cons qe_bl (qa_cons qe_str (qa_cons (qe_lst (qa_cons qe_int qa_nil)) qa_nil)))))) (qe_name (pv 3))) (qa_cons qe_str qa_nil)) (by rfl)) fun _ _ _ h => t_par h))
      qss_nil)
      (qss_cons (qs_if (qt_cmp (op_eqX ft hr.units) ok_eqX (qe_op op_mod ok_mod (qe_op op_fdivW ok_div (qe_name (pv 2)) qe_int) qe_int) qe_int (nomark _))
      (qss_cons (qs_expr (qe_mut ft PySem.F.plainAttrs_list PySem.F.slot_list_insert PySem.F.type_list_insert mt_insert ok_insert (pv 7) (qa_cons (qe_callB ft O_next (hr.mono (by decide)) (by rfl) (pv 1) (qa_cons (qe_op (op_addA ft) ok_add (qe_peekB (ca_len ft) ok_lenH (by rfl) T.m_len (by decide +kernel) (pv 7)) qe_int) qa_nil)) (qa_cons (qe_callB ft O_bad_ask (hr.mono (by decide)) (by rfl) (pv 1) (qa_cons (qe_name (pv 4)) qa_nil)) qa_nil))))
      (qss_cons (qs_set (i := 10) sc_good.nd rfl (by first | exact Or.inl rfl | exact Or.inr rfl) qe_str)
      (qss_one (qs_if (qt_cmp (op_eqX ft hr.units) ok_eqX (qe_name (pv 3)) qe_int (nomark _))
      (qss_one (qs_set (i := 7) sc_good.nd rfl (by first | exact Or.inl rfl | exact Or.inr rfl) (qe_ix ft (qe_lst (qa_cons qe_non (qa_cons (qe_tup qa_nil) (qa_cons (qe_tup (qa_cons (qe_tup (qa_cons qe_int (qa_cons qe_int (qa_cons qe_int qa_nil)))) qa_nil)) (qa_cons qe_int (qa_cons qe_noDict qa_nil)))))) (qe_callB ft O_next (hr.mono (by decide)) (by rfl) (pv 1) (qa_cons qe_int qa_nil)))))
      qss_nil))))
      qss_nil)
      (qss_cons (qs_if (qt_cmp (op_eqX ft hr.units) ok_eqX (qe_op op_mod ok_mod (qe_name (pv 2)) qe_int) qe_int (nomark _))
      (qss_cons (qs_setIx (pv 5) (qe_callB ft O_next (hr.mono (by decide)) (by rfl) (pv 1) (qa_cons (qe_name (pv 4)) qa_nil)) (qe_callB ft O_bad_track (hr.mono (by decide)) (by rfl) (pv 1) qa_nil))
      (qss_cons (qs_set (i := 10) sc_good.nd rfl (by first | exact Or.inl rfl | exact Or.inr rfl) qe_str)
      (qss_one (qs_if (qt_cmp (op_eqX ft hr.units) ok_eqX (qe_name (pv 3)) qe_int (nomark _))
      (qss_one (qs_set (i := 5) sc_good.nd rfl (by first | exact Or.inl rfl | exact Or.inr rfl) (qe_ix ft (qe_lst (qa_cons (qe_lst qa_nil) (qa_cons (qe_tup qa_nil) (qa_cons qe_non (qa_cons (qe_tup (qa_cons qe_str qa_nil)) (qa_cons qe_str (qa_cons qe_int qa_nil))))))) (qe_callB ft O_next (hr.mono (by decide)) (by rfl) (pv 1) (qa_cons qe_int qa_nil)))))
      qss_nil))))
      qss_nil)
      (qss_cons (qs_set (i := 11) sc_good.nd rfl (by first | exact Or.inl rfl | exact Or.inr rfl) (qe_lst (qa_cons (qe_name (pv 5)) (qa_cons (qe_name (pv 7)) qa_nil))))
      (qss_cons (qs_if (qt_val (qe_isP ft (by rfl) T.m_isinstance (by rfl) T.m_list (by decide +kernel) (pv 5)))
      (qss_one (qs_setIx (pv 11) qe_int (qe_peekT (ca_list ft) ok_listS (by rfl) T.m_list (by decide +kernel) (pv 5))))
      qss_nil)
      (qss_cons (qs_if (qt_val (qe_isP ft (by rfl) T.m_isinstance (by rfl) T.m_list (by decide +kernel) (pv 7)))
      (qss_one (qs_setIx (pv 11) qe_int (qe_peekT (ca_list ft) ok_listS (by rfl) T.m_list (by decide +kernel) (pv 7))))
      qss_nil)
      (qss_one (qs_ret (qe_and (qe_cmp (op_eqX ft hr.units) ok_eqX (qe_call ft O_word rfl (hr.mono (by decide)) (by rfl) (qa_cons (qe_name (pv 5)) (qa_cons (qe_name (pv 7)) (qa_cons (qe_name (pv 9)) qa_nil)))) (qe_name (pv 10)) (nomark _)) (qe_one (qe_cmp (op_eqX ft hr.units) ok_eqX (qe_name (pv 11)) (qe_lst (qa_cons (qe_name (pv 5)) (qa_cons (qe_name (pv 7)) qa_nil))) (nomark _))))))))))))))))))))))
def d_law : DS :=
    (retD (callG gAll [(compD (iterE (lift2 gAdd (lstD [(callD D_cell_at [(nameD 0), (conD (.int 0))])]) (sliceD (nameD 0) (partD (conD (.int 1))) (partD (conD (.int 8)))))) (gNameD 1) yesT (callD D_good [(nameD 1)]) [1] [])]))
def D_law : DF := bodyF 2 d_law
theorem ok_law {P : Program} {w : World} {K : PySem.W.Frag} {mg : Str → Option Value} {base : Heap} {f0 : Addr} {fd0 : FuncData} (F0 : Fun K "law" "law" s_law f0 fd0) (T : Txt K mg) : FnOk P w K mg base CX0 10 f0 fd0 ["_law_script"] (sp0 K mg 1 D_law) := by
  have O_good := ok_good (P := P) (w := w) (base := base) T
  have O_cell_at := ok_cell_at (P := P) (w := w) (base := base) T
  exact okLaw F0 (N := n_law) (g := d_law) sc_law (fun cdv A outer s H E F hr ft => (qss_one (qs_ret (qe_callB' (ca_all ft rfl) ok_all (by rfl) T.m_all (by decide +kernel) (qa_cons (qe_lc (own := [("_law_cell", 1)]) (zs := []) (by rfl) sc_law.nd (qi_seq ft (qe_op (op_addA ft) ok_add (qe_lst (qa_cons (qe_call ft O_cell_at rfl (hr.mono (by decide)) (by rfl) (qa_cons (qe_name (pv 0)) (qa_cons qe_int qa_nil))) qa_nil)) (qe_slice ft (qe_name (pv 0)) (qo_some qe_int) (qo_some qe_int)))) (blkOk_by (own := [("_law_cell", 1)]) (N := n_law) (sc := defScope s_law) (by decide +kernel)) (fun _ _ _ _ _ _ gn1 => (qg_name (i := 1) sc_law.nd rfl (by first | exact Or.inl rfl | exact Or.inr rfl))) (fun _ _ _ _ _ _ gn1 => qts_nil) (fun _ _ _ _ _ _ gn1 => (qe_call (Fit.blk ft gn1) O_good gn1.z (hr.mono (by decide)) (by rfl) (qa_cons (qe_name (pv 1)) qa_nil)))) qa_nil)))))
section
local macro_rules
  | `(tactic| walk_at "ev1") => `(tactic| (first
      | ((with_reducible refine wrG ?_); (first
          | with_reducible refine w_con ?_
          | with_reducible refine w_name rfl ?_
          | with_reducible refine w_argsCons ?_
          | with_reducible refine w_argsNil ?_
          | with_reducible refine w_seq ?_
          | with_reducible refine w_set ?_
          | with_reducible refine w_lift2 ?_
          | with_reducible refine w_callG ?_
          | with_reducible refine w_bool ?_
          | with_reducible refine w_ifV ?_
          | with_reducible refine w_if ?_
          | with_reducible refine w_nameO rfl ?_
          | with_reducible refine w_lift1 ?_
          | with_reducible refine w_andT ?_
          | with_reducible refine w_orT ?_
          | with_reducible refine w_notT ?_
          | with_reducible refine w_andV ?_
          | with_reducible refine w_orV ?_
          | with_reducible refine w_notV ?_
          | with_reducible refine w_lst ?_
          | with_reducible refine w_tup ?_
          | with_reducible refine w_callK ?_
          | with_reducible refine w_callB rfl ?_
          | with_reducible refine w_call ?_
          | with_reducible refine w_ixN rfl ?_
          | with_reducible refine w_peek2 rfl ?_
          | with_reducible refine w_partN ?_
          | with_reducible refine w_part ?_
          | with_reducible refine w_slice ?_
          | with_reducible refine w_chain ?_
          | with_reducible refine w_isT ?_
          | with_reducible refine w_isE rfl rfl ?_
          | with_reducible refine w_mut rfl rfl rfl ?_
          | with_reducible refine w_next ?_
          | with_reducible refine w_brk ?_
          | with_reducible refine w_cont ?_
          | with_reducible refine w_expr ?_
          | with_reducible refine w_ret ?_
          | with_reducible refine w_retN ?_
          | with_reducible refine w_retName rfl ?_
          | with_reducible refine w_retOwn rfl ?_
          | with_reducible refine w_asg ?_
          | with_reducible refine w_aug rfl ?_
          | with_reducible refine w_par ?_
          | with_reducible refine w_setIx ?_
          | with_reducible refine w_raise ?_
          | with_reducible refine w_for ?_
          | with_reducible refine w_forNil ?_
          | with_reducible refine w_iterE ?_
          | with_reducible refine w_iterG ?_
          | with_reducible refine w_comp ?_
          | with_reducible refine w_yes ?_
          | with_reducible refine w_try ?_
          | with_reducible refine w_peekI rfl rfl (by with_unfolding_all exact rfl) ?_
          | with_reducible refine w_peekL rfl rfl ?_
          | with_reducible refine w_peekN rfl rfl ?_
          | with_reducible refine w_peekC rfl rfl rfl ?_))
      | with_reducible refine thenS_nx ?_
      | with_reducible refine thenS_rt ?_
      | with_reducible refine thenS_bk ?_
      | with_reducible refine thenS_ct ?_
      | with_reducible refine loopT_nx ?_
      | with_reducible refine loopT_ct ?_
      | with_reducible refine loopT_rt ?_
      | with_reducible refine loopT_bk ?_
      | ((with_reducible refine exG ?_); (first
          | with_reducible refine ⟨_, gIsi_T (by with_unfolding_all exact rfl), ?_⟩
          | with_reducible refine ⟨_, gIsi_F (by with_unfolding_all exact rfl), ?_⟩
          | with_reducible refine ⟨_, gSub_int, ?_⟩
          | with_reducible refine ⟨_, gAdd_int, ?_⟩
          | with_reducible refine ⟨_, gLt_int, ?_⟩
          | with_reducible refine ⟨_, gEq_int, ?_⟩
          | with_reducible refine ⟨_, gLe_int, ?_⟩
          | with_reducible refine ⟨_, gGt_int, ?_⟩
          | with_reducible refine ⟨_, gGe_int, ?_⟩
          | with_reducible refine ⟨_, gMod_ok (by omega), ?_⟩
          | with_reducible refine ⟨_, gDiv_ok (by omega) (by omega), ?_⟩
          | with_reducible refine ⟨_, gMul_r (by omega) (by omega), ?_⟩
          | with_reducible refine ⟨_, gMul_l (by omega) (by omega), ?_⟩
          | with_reducible refine ⟨_, gPow_ok (by decide) (by decide) (by decide), ?_⟩
          | with_reducible refine ⟨_, gR1_ok (by omega) (by omega), ?_⟩
          | with_reducible refine ⟨_, gR2_ok (by omega) (by omega) (by omega) (by omega), ?_⟩
          | ((fail_if_success (with_reducible refine eqG ?_)); (first
              | refine ⟨_, rfl, ?_⟩
              | refine ⟨_, _, rfl, ?_⟩
              | refine ⟨_, _, _, rfl, rfl, rfl, ?_⟩
              | refine ⟨_, _, _, _, rfl, rfl, rfl, gAppend_ok (by simp only [List.length_map, List.length_append, List.length_cons, List.length_nil]; omega), ?_⟩
              | refine ⟨_, _, _, _, rfl, rfl, rfl, rfl, ?_⟩
              | refine ⟨_, _, _, _, rfl, rfl, rfl, rfl, rfl, ?_⟩))))
      | with_reducible refine iteT ?_
      | with_reducible refine iteF ?_
      | with_reducible refine iteNT ?_
      | with_reducible refine iteNF ?_
      | with_reducible_and_instances refine iteXT (by omega) ?_
      | with_reducible_and_instances refine iteXF (by omega) ?_
      | with_reducible_and_instances refine iteYT (by omega) ?_
      | with_reducible_and_instances refine iteYF (by omega) ?_
      | ((with_reducible refine anG ?_); (first | refine ⟨⟨_, rfl⟩, ?_⟩ | refine ⟨rfl, ?_⟩))
      | ((fail_if_success (with_reducible refine slG ?_)); dsimp only [envB, env0, List.map_cons, List.map_nil, List.length_cons, List.length_nil, List.replicate, List.cons_append, List.nil_append, Nat.reduceSub, Nat.reduceAdd, List.set_cons_zero, List.set_cons_succ, dFrz, dOwn, dBor, pOwn, pBor])
      | ((with_reducible refine slG ?_); rfl)))
local macro_rules | `(tactic| walk_at "evs") => `(tactic| repeat ((fail_if_success (with_reducible refine w_seq ?_)); walk_at "ev1"))

local macro_rules
  | `(tactic| walk_at "ev1") => `(tactic| (first
      | with_reducible refine w_call0 ?_
      | with_reducible refine w_meth ?_
      | with_reducible refine w_noDict ?_
      | with_reducible refine ⟨_, gEqX_int, ?_⟩))

open Trk
/-! kinds of things -/
def isW : D → Bool
  | .int _ => true
  | _ => false
def isC : D → Bool
  | .int i => decide (0 ≤ i)
  | _ => false
def isF : D → Bool
  | .int i => decide (0 < i)
  | _ => false
def isWd (w : Str) : D → Bool
  | .str x => eqF (.str w) (.str x)
  | _ => false
def isShr : D → Bool
  | .tup [a, b] => isWd (Str.ofString "share") a && isF b
  | _ => false
def isTrk (d : D) : Bool := isC d || (isWd (Str.ofString "fit") d || isShr d)
def Kn (d : D) : Prop := (tyN d).isSome = true
def Kd : D → Prop
  | .tup ds => ds.length < 1000 ∧ ∀ x ∈ ds, Kn x
  | .scr _ => False
  | d => Kn d
theorem Kd.kn {d : D} (h : Kd d) : Kn d := by
  cases d <;> first | exact h | rfl | exact h.elim
theorem isW_no {d : D} (h : isW d = false) : isC d = false := by cases d <;> first | rfl | cases h
theorem isC_no {d : D} (h : isC d = false) : isF d = false := by
  cases d <;> first | rfl | skip
  have := of_decide_eq_false h
  exact decide_eq_false (by omega)
theorem is_whole_spec {d : D} (h : Kn d) : wR (D_p_is_whole [d]) (fun p => p.1 = .frz (.bl (isW d))) fun _ _ => False := by
  unfold D_p_is_whole
  with_reducible refine w_body ?_
  unfold d_p_is_whole
  cases d <;> first | (cases h; done) | (repeat walk_at "ev1")
theorem is_count_spec {d : D} (h : Kn d) : wR (D_p_is_count [d]) (fun p => p.1 = .frz (.bl (isC d))) fun _ _ => False := by
  unfold D_p_is_count
  with_reducible refine w_body ?_
  unfold d_p_is_count
  repeat walk_at "ev1"
  with_reducible refine wR.mon (is_whole_spec h) ?_
  rintro ⟨_, p2⟩ rfl
  cases e : isW d with
  | false =>
    repeat walk_at "ev1"
    rw [isW_no e]
  | true =>
    cases d <;> first | (cases e; done) | skip
    repeat walk_at "ev1"
theorem is_from_one_spec {d : D} (h : Kn d) : wR (D_p_is_from_one [d]) (fun p => p.1 = .frz (.bl (isF d))) fun _ _ => False := by
  unfold D_p_is_from_one
  with_reducible refine w_body ?_
  unfold d_p_is_from_one
  repeat walk_at "ev1"
  with_reducible refine wR.mon (is_count_spec h) ?_
  rintro ⟨_, p2⟩ rfl
  cases hc : isC d with
  | false =>
    repeat walk_at "ev1"
    rw [isC_no hc]
  | true =>
    cases d <;> first | (cases hc; done) | skip
    repeat walk_at "ev1"
theorem is_one_of_spec {d : D} {w : Str} (h : Kn d) : wR (D_p_is_one_of [d, .tup [.str w]]) (fun p => p.1 = .frz (.bl (isWd w d))) fun _ _ => False := by
  unfold D_p_is_one_of
  with_reducible refine w_body ?_
  unfold d_p_is_one_of
  cases d <;> first | (cases h; done) | ((repeat walk_at "ev1"); done) | skip
  rename_i x
  repeat walk_at "ev1"
  show Sl.frz (.bl (false != (eqF (.str w) (.str x) || false))) = .frz (.bl (eqF (.str w) (.str x)))
  cases eqF (.str w) (.str x) <;> rfl
theorem gLen_tup {ds : List D} : gLen [.tup ds] = some (.frz (.int ds.length)) := rfl
theorem is_share_spec {d : D} (h : Kd d) : wR (D_p_is_share [d]) (fun p => p.1 = .frz (.bl (isShr d))) fun _ _ => False := by
  unfold D_p_is_share
  with_reducible refine w_body ?_
  unfold d_p_is_share
  cases d <;> first | (cases h; done) | ((repeat walk_at "ev1"); done) | skip
  rename_i ds
  repeat walk_at "ev1"
  refine t_iteY (fun e => ?_) (fun e => ?_)
  · match ds, e with
    | [a, b], _ =>
      repeat walk_at "ev1"
      have h2a : Kn a := h.2 a (by simp)
      have h2b : Kn b := h.2 b (by simp)
      with_reducible refine wR.mon (is_one_of_spec h2a) ?_
      rintro ⟨_, p2⟩ rfl
      cases e2 : isWd (Str.ofString "share") a with
      | false =>
        repeat walk_at "ev1"
        show _ = Sl.frz (.bl (isWd (Str.ofString "share") a && isF b))
        rw [e2]
        rfl
      | true =>
        repeat walk_at "ev1"
        with_reducible refine wR.mon (is_from_one_spec h2b) ?_
        rintro ⟨_, p2⟩ rfl
        show _ = Sl.frz (.bl (isWd (Str.ofString "share") a && isF b))
        rw [e2]
        rfl
  · have : isShr (.tup ds) = false := by
      unfold isShr
      split
      · rename_i q; cases q; exact absurd rfl e
      · rfl
    rw [this]
theorem is_track_spec {d : D} (h : Kd d) : wR (D_p_is_track [d]) (fun p => p.1 = .frz (.bl (isTrk d))) fun _ _ => False := by
  unfold D_p_is_track
  with_reducible refine w_body ?_
  unfold d_p_is_track
  repeat walk_at "ev1"
  with_reducible refine wR.mon (is_count_spec h.kn) ?_
  rintro ⟨_, p2⟩ rfl
  unfold isTrk
  cases isC d with
  | true =>
    repeat walk_at "ev1"
  | false =>
    repeat walk_at "ev1"
    with_reducible refine wR.mon (is_one_of_spec h.kn) ?_
    rintro ⟨_, p2⟩ rfl
    cases isWd (Str.ofString "fit") d with
    | true =>
      repeat walk_at "ev1"
    | false =>
      repeat walk_at "ev1"
      with_reducible refine wR.mon (is_share_spec h) ?_
      rintro ⟨_, p2⟩ rfl
      repeat walk_at "ev1"
theorem bools_map {α : Type} {f : α → Bool} : ∀ {xs : List α}, boolsOf (xs.map fun x => D.bl (f x)) = some (xs.map f)
  | [] => rfl
  | x :: xs => by
    show (boolsOf (xs.map fun x => D.bl (f x))).map _ = _
    rw [bools_map]
    rfl
theorem gAll_map {α : Type} {f : α → Bool} {xs : List α} : gAll [.lst (xs.map fun x => D.bl (f x))] = some (.frz (.bl (xs.all f))) := by
  show (boolsOf _).bind _ = _
  rw [bools_map]
  show some (Sl.frz (.bl ((xs.map f).all id))) = _
  rw [List.all_map]
  rfl
theorem ints_map {α : Type} {f : α → Int} : ∀ {xs : List α}, intsOf (xs.map fun x => D.int (f x)) = some (xs.map f)
  | [] => rfl
  | x :: xs => by
    show (intsOf (xs.map fun x => D.int (f x))).map _ = _
    rw [ints_map]
    rfl
theorem gSum_map {α : Type} {f : α → Int} {xs : List α} : gSum [.lst (xs.map fun x => D.int (f x))] = some (.frz (.int (xs.map f).sum)) := by
  show (intsOf _).bind _ = _
  rw [ints_map]
  rfl
def okTr : D → Bool
  | .lst ds => !decide (ds.length = 0) && ds.all isTrk
  | _ => false
def Lk : D → Prop
  | .lst ds => ds.length < 1000 ∧ ∀ x ∈ ds, Kd x
  | d => Kd d
theorem tracks_lst {ds : List D} (h : Lk (.lst ds)) : wR (D_p_refuse_no_tracks [.lst ds]) (fun _ => okTr (.lst ds) = true) (fun c _ => c = "NoTrack" ∧ okTr (.lst ds) = false) := by
  unfold D_p_refuse_no_tracks
  with_reducible refine w_body ?_
  unfold d_p_refuse_no_tracks okTr
  repeat walk_at "ev1"
  refine t_iteY (fun e => ?_) (fun e => ?_)
  · repeat walk_at "ev1"
    rw [decide_eq_true (by omega)]
    rfl
  · repeat walk_at "ev1"
    refine w_lcD (fun i acc e => acc = (ds.take i).map (fun x => D.bl (isTrk x)) ∧ e = [some (.frz (.lst ds)), none]) ⟨rfl, rfl⟩ ?_ ?_
    · rintro i d acc e hd ⟨rfl, rfl⟩
      have hi : i < ds.length := (List.getElem?_eq_some_iff.mp hd).1
      have hl : ds.length < 1000 := h.1
      refine ⟨_, rfl, ?_⟩
      dsimp only [lendE, List.map_cons, List.map_nil, lend]
      repeat walk_at "ev1"
      have hkd : Kd d := h.2 d (List.mem_of_getElem? hd)
      with_reducible refine wR.mon (is_track_spec hkd) ?_
      rintro ⟨_, p2⟩ rfl
      refine ⟨by show _ < 16000000; simp; omega, ?_, rfl⟩
      rw [List.take_add_one, hd]
      simp
    · rintro acc e ⟨rfl, rfl⟩
      rw [List.take_length]
      repeat walk_at "ev1"
      refine ⟨_, gAll_map, ?_⟩
      rw [decide_eq_false (by omega)]
      cases ds.all isTrk <;> (repeat walk_at "ev1") <;> first | exact ⟨rfl, rfl⟩ | rfl

open Trk
theorem tracks_no {d : D} (h : Kd d) (hl : ∀ ds, d ≠ .lst ds) : wR (D_p_refuse_no_tracks [d]) (fun _ => okTr d = true) (fun c _ => c = "NoTrack" ∧ okTr d = false) := by
  unfold D_p_refuse_no_tracks
  with_reducible refine w_body ?_
  unfold d_p_refuse_no_tracks
  cases d <;> first | (cases h; done) | (exact absurd rfl (hl _)) | ((repeat walk_at "ev1") <;> first | exact ⟨rfl, rfl⟩ | rfl)
theorem tracks_spec {d : D} (h : Lk d) : wR (D_p_refuse_no_tracks [d]) (fun _ => okTr d = true) (fun c _ => c = "NoTrack" ∧ okTr d = false) := by
  cases d <;> first | exact tracks_lst h | exact tracks_no h (fun _ z => nomatch z)
def leS (n : Int) : D → D → Bool
  | .int a, .int b => decide (a + b ≤ n)
  | _, _ => false
def isAsk (n : Int) : D → Bool
  | .tup [a, b, c] => isC a && (isF b && (isC c && leS n a b))
  | _ => false
theorem ask_three {n : Int} {a b c : D} (ha : Kn a) (hb : Kn b) (hc : Kn c) : wR (D_p_is_ask [.tup [a, b, c], .int n]) (fun p => p.1 = .frz (.bl (isAsk n (.tup [a, b, c])))) fun _ _ => False := by
  unfold D_p_is_ask
  with_reducible refine w_body ?_
  unfold d_p_is_ask
  repeat walk_at "ev1"
  with_reducible refine wR.mon (is_count_spec ha) ?_
  rintro ⟨_, p2⟩ rfl
  have key : isAsk n (.tup [a, b, c]) = (isC a && (isF b && (isC c && leS n a b))) := rfl
  rw [key]
  cases ea : isC a with
  | false =>
    repeat walk_at "ev1"
  | true =>
    repeat walk_at "ev1"
    with_reducible refine wR.mon (is_from_one_spec hb) ?_
    rintro ⟨_, p2⟩ rfl
    cases eb : isF b with
    | false =>
      repeat walk_at "ev1"
    | true =>
      repeat walk_at "ev1"
      with_reducible refine wR.mon (is_count_spec hc) ?_
      rintro ⟨_, p2⟩ rfl
      cases ec : isC c with
      | false =>
        repeat walk_at "ev1"
      | true =>
        cases a <;> first | (cases ea; done) | skip
        cases b <;> first | (cases eb; done) | skip
        repeat walk_at "ev1"
theorem is_ask_spec {d : D} {n : Int} (h : Kd d) : wR (D_p_is_ask [d, .int n]) (fun p => p.1 = .frz (.bl (isAsk n d))) fun _ _ => False := by
  by_cases hd : ∃ a b c, d = .tup [a, b, c]
  · obtain ⟨a, b, c, rfl⟩ := hd
    exact ask_three (h.2 a (by simp)) (h.2 b (by simp)) (h.2 c (by simp))
  · unfold D_p_is_ask
    with_reducible refine w_body ?_
    unfold d_p_is_ask
    cases d <;> first | (cases h; done) | ((repeat walk_at "ev1"); done) | skip
    rename_i ds
    repeat walk_at "ev1"
    refine t_iteX (fun e => ?_) (fun e => ?_)
    · repeat walk_at "ev1"
      have : isAsk n (.tup ds) = false := by
        unfold isAsk
        split
        · rename_i q; cases q; exact absurd rfl e
        · rfl
      rw [this]
    · exfalso
      match ds, e with
      | [a, b, c], _ => exact hd ⟨a, b, c, rfl⟩
def okAs (n : Int) : D → Bool
  | .lst ds => ds.all (isAsk n)
  | _ => false
theorem asks_lst {ds : List D} {n : Int} (h : Lk (.lst ds)) : wR (D_p_refuse_no_asks [.lst ds, .int n]) (fun _ => okAs n (.lst ds) = true) (fun c _ => c = "NoAsk" ∧ okAs n (.lst ds) = false) := by
  unfold D_p_refuse_no_asks
  with_reducible refine w_body ?_
  unfold d_p_refuse_no_asks okAs
  repeat walk_at "ev1"
  refine w_lcD (fun i acc e => acc = (ds.take i).map (fun x => D.bl (isAsk n x)) ∧ e = [some (.frz (.lst ds)), some (.frz (.int n)), none]) ⟨rfl, rfl⟩ ?_ ?_
  · rintro i d acc e hd ⟨rfl, rfl⟩
    have hi : i < ds.length := (List.getElem?_eq_some_iff.mp hd).1
    have hl : ds.length < 1000 := h.1
    refine ⟨_, rfl, ?_⟩
    dsimp only [lendE, List.map_cons, List.map_nil, lend]
    repeat walk_at "ev1"
    have hkd : Kd d := h.2 d (List.mem_of_getElem? hd)
    with_reducible refine wR.mon (is_ask_spec hkd) ?_
    rintro ⟨_, p2⟩ rfl
    refine ⟨by show _ < 16000000; simp; omega, ?_, rfl⟩
    rw [List.take_add_one, hd]
    simp
  · rintro acc e ⟨rfl, rfl⟩
    rw [List.take_length]
    repeat walk_at "ev1"
    refine ⟨_, gAll_map, ?_⟩
    cases ds.all (isAsk n) <;> (repeat walk_at "ev1") <;> first | exact ⟨rfl, rfl⟩ | rfl
theorem asks_spec {d : D} {n : Int} (h : Lk d) : wR (D_p_refuse_no_asks [d, .int n]) (fun _ => okAs n d = true) (fun c _ => c = "NoAsk" ∧ okAs n d = false) := by
  by_cases hl : ∃ ds, d = .lst ds
  · obtain ⟨ds, rfl⟩ := hl
    exact asks_lst h
  · unfold D_p_refuse_no_asks
    with_reducible refine w_body ?_
    unfold d_p_refuse_no_asks
    cases d <;> first | (cases h; done) | (exact absurd ⟨_, rfl⟩ hl) | ((repeat walk_at "ev1") <;> first | exact ⟨rfl, rfl⟩ | rfl)
theorem counts_spec {d : D} (h : Kn d) : wR (D_p_refuse_no_counts [.lst [d]]) (fun _ => isC d = true) (fun c _ => c = "NoNumber" ∧ isC d = false) := by
  unfold D_p_refuse_no_counts
  with_reducible refine w_body ?_
  unfold d_p_refuse_no_counts
  repeat walk_at "ev1"
  refine w_forCons rfl ?_
  repeat walk_at "ev1"
  with_reducible refine wR.mono (is_count_spec h) ?_ (fun _ _ z => z.elim)
  rintro ⟨_, p2⟩ rfl
  cases e : isC d <;> (repeat walk_at "ev1") <;> first | exact ⟨rfl, rfl⟩ | rfl
theorem parts_spec {lk : Int} {k : Nat} (hk : k < 1000) : wR (D_p_running_parts [.int lk, .lst (List.replicate k (.int 1))]) (fun p => p.1 = .own (.lst ((runs lk k k).map .int))) fun _ _ => False := by
  unfold D_p_running_parts
  with_reducible refine w_body ?_
  unfold d_p_running_parts
  have hs : gSum [.lst (List.replicate k (D.int 1))] = some (.frz (.int k)) := by
    have := gSum_map (f := fun _ : Nat => (1 : Int)) (xs := List.range k)
    rw [show (List.range k).map (fun _ => D.int 1) = List.replicate k (D.int 1) by rw [List.map_const', List.length_range], show (List.range k).map (fun _ => (1 : Int)) = List.replicate k 1 by rw [List.map_const', List.length_range]] at this
    rw [this, List.sum_replicate_int]
    simp
  repeat walk_at "ev1"
  refine ⟨_, hs, ?_⟩
  repeat walk_at "ev1"
  refine w_forD (fun i e => ∃ o6 o7 : Option Sl, e = [some (.frz (.int lk)), some (.frz (.lst (List.replicate k (.int 1)))), some (.frz (.int k)), some (.own (.lst ((runs lk k i).map .int))), some (.frz (.int i)), some (.frz (.int (lk * i / k))), o6, o7]) ⟨none, none, ?_⟩ ?_ ?_
  · simp [runs]
  · rintro i d e hd ⟨o6, o7, rfl⟩
    have hi : i < k := by
      have := (List.getElem?_eq_some_iff.mp hd).1
      simpa using this
    have hd1 : d = .int 1 := by
      rw [List.getElem?_replicate, if_pos hi] at hd
      cases hd; rfl
    subst hd1
    refine ⟨_, rfl, ?_⟩
    have hr : (runs lk k i).length = i := by simp [runs]
    repeat walk_at "ev1"
    rw [runs_succ, List.map_append]
    exact ⟨_, _, rfl⟩
  · rintro e ⟨o6, o7, rfl⟩
    rw [List.length_replicate]
    repeat walk_at "ev1"
def askD (a : Ask) : D := .tup [.int a.f, .int a.m, .int a.s]
theorem cut_mid {α : Type} {xs : List α} {f m : Nat} : cutL xs (some (f : Int)) (some ((f : Int) + m)) = (xs.drop f).take m := by
  unfold cutL
  rw [show ((f : Int) + m) = ((f + m : Nat) : Int) by omega, HT.sIx_nat, HT.sIx_nat]
  by_cases h : f ≤ xs.length
  · rw [Nat.min_eq_left h]
    by_cases h2 : f + m ≤ xs.length
    · rw [Nat.min_eq_left h2, Nat.add_sub_cancel_left]
    · rw [Nat.min_eq_right (by omega), List.take_of_length_le (by simp), List.take_of_length_le (by simp; omega)]
  · rw [Nat.min_eq_right (by omega), Nat.min_eq_right (by omega), List.drop_length, List.drop_of_length_le (by omega)]
    simp
theorem stretch_spec {sz : List Int} {gap : Int} {a : Ask} (hf : a.f < 1000) (hm : a.m < 1000) : wR (D_p_stretch_of [.lst (sz.map .int), .int a.f, .int a.m, .int gap]) (fun p => ∃ z, p.1 = .frz (.tup [.int z, .int (now sz gap a)])) fun _ _ => False := by
  unfold D_p_stretch_of
  with_reducible refine w_body ?_
  unfold d_p_stretch_of
  repeat walk_at "ev1"
  refine ⟨_, by rw [cutL_map]; exact gSum_map, ?_⟩
  repeat walk_at "ev1"
  refine ⟨_, by rw [cutL_map]; exact gSum_map, ?_⟩
  repeat walk_at "ev1"
  rw [cut_mid]
  rw [List.map_id', List.map_id']
  exact ⟨_, rfl⟩

open Trk
def wAt (tr : List D) (t : Nat) : Bool := isW (tr.getD t .non)
theorem flat_one {d : D} : ∀ k : Nat, (List.replicate k [d]).flatten = List.replicate k d
  | 0 => rfl
  | k + 1 => by rw [List.replicate_succ, List.flatten_cons, flat_one k, List.replicate_succ]; rfl
theorem gMul_one {d : D} {k : Nat} (h : k < 1000) : gMul (.lst [d]) (.int k) = some (.own (.lst (List.replicate k d))) := by
  unfold gMul
  dsimp only
  rw [if_pos ⟨by omega, by omega, by show 1 * _ ≤ 16000000; simp; omega⟩, Int.toNat_natCast, flat_one]
local macro_rules
  | `(tactic| walk_at "ev1") => `(tactic| with_reducible refine ⟨_, gMul_one (by first | omega | (simp only [List.length_map]; omega)), ?_⟩)
structure GoodT (tr : List D) : Prop where
  len : tr.length < 100
  kd : ∀ d ∈ tr, Kd d
theorem gMax2_mx {g p : Int} : gMax2 [.int g, .int p] = some (.frz (.int (mx g p))) := rfl
theorem zip_parts {fr : List Nat} {f : Nat → Int} {k : Nat} {d : D} {i : Nat} (hl : fr.length = k) (h : ((((fr.map fun t : Nat => D.int (t : Int)).zip (((List.range k).map f).map .int))).map fun p => D.tup [p.1, p.2])[i]? = some d) : ∃ a, fr[i]? = some a ∧ d = .tup [.int a, .int (f i)] := by
  rw [List.map_map, List.zip_map, List.getElem?_map, List.getElem?_map] at h
  cases e : (fr.zip (List.range k))[i]? with
  | none => rw [e] at h; cases h
  | some p =>
    rw [e] at h
    obtain ⟨x, y⟩ := p
    rw [List.getElem?_zip_eq_some] at e
    obtain ⟨e1, e2⟩ := e
    have hi : i < k := by have := (List.getElem?_eq_some_iff.mp e2).1; simpa using this
    rw [List.getElem?_range hi] at e2
    cases e2
    cases h
    exact ⟨x, e1, rfl⟩
theorem rangeL_nat {n : Nat} : True := trivial
theorem grown_spec {tr : List D} {sz : List Int} {gap : Int} {as : List Ask} (ht : GoodT tr) (hs : sz.length = tr.length) (ha : ∀ a ∈ as, a.f + a.m ≤ tr.length) (hl : as.length < 100) :
    wR (D_p_grown [.lst tr, .lst (sz.map .int), .lst (as.map askD), .int gap]) (fun p => p.1 = .own (.lst ((grow (wAt tr) sz gap as).map .int))) fun _ _ => False := by
  have hn := ht.len
  unfold D_p_grown
  with_reducible refine w_body ?_
  unfold d_p_grown
  repeat walk_at "ev1"
  refine w_forD (fun i e => ∃ o5 o6 o7 o8 o9 o10 o11 o12 o13 o14 : Option Sl, e = [some (.frz (.lst tr)), some (.frz (.lst (sz.map .int))), some (.frz (.lst (as.map askD))), some (.frz (.int gap)), some (.own (.lst (((List.range tr.length).map (gro (wAt tr) sz gap (as.take i))).map .int))), o5, o6, o7, o8, o9, o10, o11, o12, o13, o14]) ⟨none, none, none, none, none, none, none, none, none, none, ?_⟩ ?_ ?_
  · rw [List.map_map]
    show _ = [_, _, _, _, some (Sl.own (.lst ((List.range tr.length).map fun _ => D.int 0))), _, _, _, _, _, _, _, _, _, _]
    rw [List.map_const', List.length_range]
    rfl
  · rintro i d e hd ⟨o5, o6, o7, o8, o9, o10, o11, o12, o13, o14, rfl⟩
    rw [List.getElem?_map] at hd
    cases hx : as[i]? with
    | none => rw [hx] at hd; cases hd
    | some a =>
    rw [hx] at hd
    cases hd
    have hi := (List.getElem?_eq_some_iff.mp hx).1
    have hfm := ha a (List.mem_of_getElem? hx)
    refine ⟨_, rfl, ?_⟩
    repeat walk_at "ev1"
    with_reducible refine wR.mon (stretch_spec (by omega) (by omega)) ?_
    rintro ⟨_, p2⟩ ⟨z, rfl⟩
    repeat walk_at "ev1"
    rw [show ((a.f : Int) + a.m - a.f).toNat = a.m by omega]
    refine w_lcD (fun j acc e => acc = (frees (wAt tr) a.f j).map (fun t : Nat => D.int (t : Int)) ∧ ∃ o10 o12 o13 o14 : Option Sl, e = [some (.frz (.lst tr)), some (.frz (.lst (sz.map .int))), some (.frz (.lst (as.map askD))), some (.frz (.int gap)), some (.own (.lst (((List.range tr.length).map (gro (wAt tr) sz gap (as.take i))).map .int))), some (.frz (.int a.f)), some (.frz (.int a.m)), some (.frz (.int a.s)), some (.frz (.int z)), some (.frz (.int (now sz gap a))), o10, none, o12, o13, o14]) ⟨rfl, _, _, _, _, rfl⟩ ?_ ?_
    · rintro j d acc e hd ⟨rfl, o10, o12, o13, o14, rfl⟩
      obtain ⟨hj, rfl⟩ := rangeL_get hd
      refine ⟨_, rfl, ?_⟩
      dsimp only [lendE, List.map_cons, List.map_nil, lend]
      repeat walk_at "ev1"
      have hlt : ((a.f : Int) + j) < tr.length := by omega
      obtain ⟨d, dm, d1, ed⟩ := gIx_lst (ds := tr) (r := (a.f : Int) + j) (by omega) hlt
      refine ⟨_, ed, ?_⟩
      repeat walk_at "ev1"
      with_reducible refine wR.mon (is_whole_spec (ht.kd d dm).kn) ?_
      rintro ⟨_, p2⟩ rfl
      have hw : isW d = wAt tr (a.f + j) := by
        unfold wAt
        rw [show ((a.f : Int) + j).toNat = a.f + j by omega] at d1
        rw [List.getD_eq_getElem?_getD, d1]
        rfl
      rw [hw, frees_succ]
      have hfl := frees_len (wAt tr) a.f j
      cases wAt tr (a.f + j) with
      | true =>
        repeat walk_at "ev1"
        refine ⟨by simp, _, _, _, _, rfl⟩
      | false =>
        repeat walk_at "ev1"
        refine ⟨by show _ < 16000000; simp; omega, by simp [Sl.d], _, _, _, _, rfl⟩
    · rintro acc e ⟨rfl, o10, o12, o13, o14, rfl⟩
      rw [rangeL_len]
      have hfl := frees_len (wAt tr) a.f a.m
      repeat walk_at "ev1"
      rw [List.length_map]
      have hlk : (if a.s - now sz gap a > 0 then a.s - now sz gap a else 0) = lack sz gap a := rfl
      rw [hlk]
      with_reducible refine wR.mon (parts_spec (by omega)) ?_
      rintro ⟨_, p2⟩ rfl
      repeat walk_at "ev1"
      refine w_forD (fun j e => ∃ o11 o13 : Option Sl, e = [some (.frz (.lst tr)), some (.frz (.lst (sz.map .int))), some (.frz (.lst (as.map askD))), some (.frz (.int gap)), some (.own (.lst ((dealt tr.length (gro (wAt tr) sz gap (as.take i)) (frees (wAt tr) a.f a.m) (partAt (lack sz gap a) (frees (wAt tr) a.f a.m).length) j).map .int))), some (.frz (.int a.f)), some (.frz (.int a.m)), some (.frz (.int a.s)), some (.frz (.int z)), some (.frz (.int (now sz gap a))), some (.frz (.lst ((frees (wAt tr) a.f a.m).map (fun t : Nat => D.int (t : Int))))), o11, some (.frz (.int (lack sz gap a))), o13, o14]) ⟨none, _, by rw [dealt_zero]⟩ ?_ ?_
      · rintro j d e hd ⟨o11, o13, rfl⟩
        obtain ⟨t, et, rfl⟩ := zip_parts rfl hd
        have hm := frees_mem.mp (List.mem_of_getElem? et)
        have nd := frees_nodup (wAt tr) a.f a.m
        have hlt : t < tr.length := by omega
        refine ⟨_, rfl, ?_⟩
        have hdl : (dealt tr.length (gro (wAt tr) sz gap (as.take i)) (frees (wAt tr) a.f a.m) (partAt (lack sz gap a) (frees (wAt tr) a.f a.m).length) j).length = tr.length := by simp [dealt]
        have hget := dealt_get (n := tr.length) (g := gro (wAt tr) sz gap (as.take i)) (p := partAt (lack sz gap a) (frees (wAt tr) a.f a.m).length) nd et hlt
        obtain ⟨d, dm, d1, ed⟩ := gIx_lst (ds := (dealt tr.length (gro (wAt tr) sz gap (as.take i)) (frees (wAt tr) a.f a.m) (partAt (lack sz gap a) (frees (wAt tr) a.f a.m).length) j).map .int) (r := (t : Int)) (by omega) (by rw [List.length_map, hdl]; omega)
        rw [Int.toNat_natCast, List.getElem?_map, hget] at d1
        cases d1
        have hix : ixN ((dealt tr.length (gro (wAt tr) sz gap (as.take i)) (frees (wAt tr) a.f a.m) (partAt (lack sz gap a) (frees (wAt tr) a.f a.m).length) j).map D.int).length (t : Int) = some t := by
          unfold ixN
          rw [if_pos (by omega), if_pos (by rw [List.length_map, hdl]; omega), Int.toNat_natCast]
        repeat walk_at "ev1"
        refine ⟨_, _, _, rfl, rfl, ed, ?_⟩
        repeat walk_at "ev1"
        refine ⟨_, _, _, _, rfl, rfl, rfl, rfl, hix, ?_⟩
        repeat walk_at "ev1"
        rw [← dealt_succ nd et, List.map_set]
        exact ⟨_, _, rfl⟩
      · rintro e ⟨o11, o13, rfl⟩
        rw [List.length_map, List.length_zip, List.length_map, List.length_map]
        rw [show min (frees (wAt tr) a.f a.m).length (runs (lack sz gap a) (frees (wAt tr) a.f a.m).length (frees (wAt tr) a.f a.m).length).length = (frees (wAt tr) a.f a.m).length by simp [runs]]
        rw [dealt_end]
        rw [List.take_add_one, hx]
        exact ⟨_, _, _, _, _, _, _, _, _, _, rfl⟩
  · rintro e ⟨o5, o6, o7, o8, o9, o10, o11, o12, o13, o14, rfl⟩
    rw [List.length_map, List.take_length]
    repeat walk_at "ev1"
    refine w_lcD (fun j acc e => acc = ((grow (wAt tr) sz gap as).take j).map .int ∧ ∃ o5 o6 o8 o9 o10 o11 o12 o13 : Option Sl, e = [some (.frz (.lst tr)), some (.frz (.lst (sz.map .int))), some (.frz (.lst (as.map askD))), some (.frz (.int gap)), some (.frz (.lst (((List.range tr.length).map (gro (wAt tr) sz gap as)).map .int))), o5, o6, none, o8, o9, o10, o11, o12, o13, none]) ⟨rfl, _, _, _, _, _, _, _, _, rfl⟩ ?_ ?_
    · rintro j d acc e hd ⟨rfl, o5, o6, o8, o9, o10, o11, o12, o13, rfl⟩
      have hx : ∃ x, sz[j]? = some x ∧ d = .tup [.int x, .int (gro (wAt tr) sz gap as j)] := by
        rw [List.zip_map, List.getElem?_map, List.getElem?_map] at hd
        cases e : (sz.zip ((List.range tr.length).map (gro (wAt tr) sz gap as)))[j]? with
        | none => rw [e] at hd; cases hd
        | some p =>
          rw [e] at hd
          obtain ⟨x, y⟩ := p
          rw [List.getElem?_zip_eq_some] at e
          obtain ⟨e1, e2⟩ := e
          have hj : j < tr.length := by have := (List.getElem?_eq_some_iff.mp e2).1; simpa using this
          rw [List.getElem?_map, List.getElem?_range hj] at e2
          cases e2
          cases hd
          exact ⟨x, e1, rfl⟩
      obtain ⟨x, ex, rfl⟩ := hx
      have hj := (List.getElem?_eq_some_iff.mp ex).1
      refine ⟨_, rfl, ?_⟩
      dsimp only [lendE, List.map_cons, List.map_nil, lend]
      repeat walk_at "ev1"
      refine ⟨by show _ < 16000000; simp; omega, ?_, _, _, _, _, _, _, _, _, rfl⟩
      rw [List.take_add_one]
      have : (grow (wAt tr) sz gap as)[j]? = some (x + gro (wAt tr) sz gap as j) := by
        unfold grow
        rw [List.getElem?_map, List.getElem?_range hj]
        simp [ex]
      rw [this]
      simp [Sl.d]
    · rintro acc e ⟨rfl, o5, o6, o8, o9, o10, o11, o12, o13, rfl⟩
      repeat walk_at "ev1"
      show Sl.own _ = Sl.own _
      rw [List.take_of_length_le]
      simp [grow]
      omega

open Trk
def zOf : D → Int
  | .int i => i
  | _ => 0
def sz0 (tr : List D) : List Int := tr.map zOf
theorem filt_take {as : List Ask} {f : Ask → Bool} {i : Nat} {a : Ask} (h : as[i]? = some a) : (as.take (i + 1)).filter f = (as.take i).filter f ++ if f a then [a] else [] := by
  rw [List.take_add_one, h, List.filter_append]
  cases e : f a <;> simp [e]
theorem sizes_spec {tr : List D} {gap : Int} {as : List Ask} (ht : GoodT tr) (hk : okTr (.lst tr) = true) (ha : ∀ a ∈ as, a.f + a.m ≤ tr.length ∧ 0 < a.m ∧ 0 ≤ a.s) (hl : as.length < 60) (hg : 0 ≤ gap) :
    wR (D_p_track_sizes [.lst tr, .lst (as.map askD), .int gap]) (fun p => p.1 = .own (.lst ((fold (wAt tr) gap as (sset (as.map fun a => (a.m : Int))) (sz0 tr)).map .int))) fun _ _ => False := by
  have hn := ht.len
  have hka : okAs tr.length (.lst (as.map askD)) = true := by
    unfold okAs
    rw [List.all_eq_true]
    intro x hx
    obtain ⟨a, ham, rfl⟩ := List.mem_map.mp hx
    obtain ⟨h1, h2, h3⟩ := ha a ham
    show (decide (0 ≤ (a.f : Int)) && (decide (0 < (a.m : Int)) && (decide (0 ≤ a.s) && decide ((a.f : Int) + a.m ≤ tr.length)))) = true
    rw [decide_eq_true (by omega), decide_eq_true (by omega), decide_eq_true h3, decide_eq_true (by omega)]
    rfl
  have hlk : Lk (.lst (as.map askD)) := ⟨by simp; omega, fun x hx => by
    obtain ⟨a, _, rfl⟩ := List.mem_map.mp hx
    refine ⟨by simp, fun y hy => ?_⟩
    simp only [List.mem_cons, List.not_mem_nil, or_false] at hy
    rcases hy with rfl | rfl | rfl <;> rfl⟩
  unfold D_p_track_sizes
  with_reducible refine w_body ?_
  unfold d_p_track_sizes
  repeat walk_at "ev1"
  have hlt : Lk (.lst tr) := ⟨by omega, ht.kd⟩
  have hkg : Kn (.int gap) := rfl
  with_reducible refine wR.mono (tracks_lst hlt) ?_ (fun c e z => by rw [hk] at z; exact nomatch z.2)
  rintro ⟨z1, _⟩ _
  repeat walk_at "ev1"
  with_reducible refine wR.mono (asks_lst hlk) ?_ (fun c e z => by rw [hka] at z; exact nomatch z.2)
  rintro ⟨z1, _⟩ _
  repeat walk_at "ev1"
  have hnc : ¬ (isC (.int gap) = false) := fun z => by have := of_decide_eq_false z; omega
  with_reducible refine wR.mono (counts_spec hkg) ?_ (fun c e z => absurd z.2 hnc)
  rintro ⟨z1, _⟩ _
  repeat walk_at "ev1"
  refine w_lcD (fun i acc e => acc = ((sz0 tr).take i).map .int ∧ ∃ o3 o5 o6 : Option Sl, e = [some (.frz (.lst tr)), some (.frz (.lst (as.map askD))), some (.frz (.int gap)), o3, none, o5, o6]) ⟨rfl, _, _, _, rfl⟩ ?_ ?_
  · rintro i d acc e hd ⟨rfl, o3, o5, o6, rfl⟩
    have hi := (List.getElem?_eq_some_iff.mp hd).1
    refine ⟨_, rfl, ?_⟩
    dsimp only [lendE, List.map_cons, List.map_nil, lend]
    repeat walk_at "ev1"
    with_reducible refine wR.mon (is_whole_spec (ht.kd d (List.mem_of_getElem? hd)).kn) ?_
    rintro ⟨_, p2⟩ rfl
    repeat walk_at "ev1"
    have hz : (sz0 tr)[i]? = some (zOf d) := by
      unfold sz0
      rw [List.getElem?_map, hd]
      rfl
    cases hw : isW d with
    | true =>
      cases d <;> first | (cases hw; done) | skip
      repeat walk_at "ev1"
      refine ⟨by show _ < 16000000; simp; omega, ?_, _, _, _, rfl⟩
      rw [List.take_add_one, hz]
      simp [zOf]
    | false =>
      repeat walk_at "ev1"
      refine ⟨by show _ < 16000000; simp; omega, ?_, _, _, _, rfl⟩
      rw [List.take_add_one, hz]
      cases d <;> first | (cases hw; done) | simp [zOf]
  · rintro acc e ⟨rfl, o3, o5, o6, rfl⟩
    rw [List.take_of_length_le (by simp [sz0])]
    repeat walk_at "ev1"
    refine w_lcD (fun i acc e => acc = ((as.take i).map fun a => (a.m : Int)).map .int ∧ ∃ o5 : Option Sl, e = [some (.frz (.lst tr)), some (.frz (.lst (as.map askD))), some (.frz (.int gap)), some (.own (.lst ((sz0 tr).map .int))), none, o5, none]) ⟨rfl, _, rfl⟩ ?_ ?_
    · rintro i d acc e hd ⟨rfl, o5, rfl⟩
      rw [List.getElem?_map] at hd
      cases hx : as[i]? with
      | none => rw [hx] at hd; cases hd
      | some a =>
      rw [hx] at hd
      cases hd
      have hi := (List.getElem?_eq_some_iff.mp hx).1
      refine ⟨_, rfl, ?_⟩
      dsimp only [lendE, List.map_cons, List.map_nil, lend]
      unfold askD
      repeat walk_at "ev1"
      refine ⟨by show _ < 16000000; simp; omega, ?_, _, rfl⟩
      rw [List.take_add_one, hx]
      simp [Sl.d]
    · rintro acc e ⟨rfl, o5, rfl⟩
      rw [List.length_map, List.take_length]
      repeat walk_at "ev1"
      have hset : gSortSet [.lst ((as.map fun a => (a.m : Int)).map .int)] = some (.own (.lst ((sset (as.map fun a => (a.m : Int))).map .int))) := by
        show (intsOf _).bind _ = _
        rw [show ((as.map fun a => (a.m : Int)).map D.int) = (as.map fun a => (a.m : Int)).map (fun x => D.int (id x)) from rfl, ints_map, List.map_id]
        show (if _ then _ else _) = _
        rw [if_pos (by simp; omega)]
      refine ⟨_, hset, ?_⟩
      repeat walk_at "ev1"
      refine w_forD (fun i e => ∃ o5 o6 : Option Sl, e = [some (.frz (.lst tr)), some (.frz (.lst (as.map askD))), some (.frz (.int gap)), some (.own (.lst ((fold (wAt tr) gap as ((sset (as.map fun a => (a.m : Int))).take i) (sz0 tr)).map .int))), none, o5, o6]) ⟨_, _, rfl⟩ ?_ ?_
      · rintro i d e hd ⟨o5, o6, rfl⟩
        rw [List.getElem?_map] at hd
        cases hx : (sset (as.map fun a => (a.m : Int)))[i]? with
        | none => rw [hx] at hd; cases hd
        | some m =>
        rw [hx] at hd
        cases hd
        refine ⟨_, rfl, ?_⟩
        repeat walk_at "ev1"
        have hfl : (fold (wAt tr) gap as ((sset (as.map fun a => (a.m : Int))).take i) (sz0 tr)).length = tr.length := by rw [fold_len]; simp [sz0]
        refine w_lcD (fun j acc e => acc = ((as.take j).filter fun a => decide ((a.m : Int) = m)).map askD ∧ e = [some (.frz (.lst tr)), some (.frz (.lst (as.map askD))), some (.frz (.int gap)), some (.frz (.lst ((fold (wAt tr) gap as ((sset (as.map fun a => (a.m : Int))).take i) (sz0 tr)).map .int))), none, some (.frz (.int m)), none]) ⟨rfl, rfl⟩ ?_ ?_
        · rintro j d acc e hd ⟨rfl, rfl⟩
          rw [List.getElem?_map] at hd
          cases hy : as[j]? with
          | none => rw [hy] at hd; cases hd
          | some a =>
          rw [hy] at hd
          cases hd
          have hj := (List.getElem?_eq_some_iff.mp hy).1
          refine ⟨_, rfl, ?_⟩
          dsimp only [lendE, List.map_cons, List.map_nil, lend]
          have hle := List.length_filter_le (fun a : Ask => decide ((a.m : Int) = m)) (as.take j)
          rw [List.length_take] at hle
          unfold askD
          repeat walk_at "ev1"
          refine t_iteY (fun h => ?_) (fun h => ?_)
          · repeat walk_at "ev1"
            refine ⟨by show _ < 16000000; simp only [List.length_map]; omega, ?_, rfl⟩
            rw [filt_take hy, if_pos (by simpa using h), List.map_append]
            rfl
          · refine ⟨?_, rfl⟩
            rw [filt_take hy, if_neg (by simpa using h), List.append_nil]
        · rintro acc e ⟨rfl, rfl⟩
          rw [List.length_map, List.take_length]
          repeat walk_at "ev1"
          with_reducible refine wR.mon (grown_spec ht hfl (fun a hm => (ha a (List.mem_filter.mp hm).1).1) (Nat.lt_of_le_of_lt (List.length_filter_le _ _) (by omega))) ?_
          rintro ⟨_, p2⟩ rfl
          repeat walk_at "ev1"
          have : fold (wAt tr) gap as ((sset (as.map fun a => (a.m : Int))).take (i + 1)) (sz0 tr) = grow (wAt tr) (fold (wAt tr) gap as ((sset (as.map fun a => (a.m : Int))).take i) (sz0 tr)) gap (as.filter fun a => decide ((a.m : Int) = m)) := by
            unfold fold
            rw [List.take_add_one, hx, List.foldl_append]
            rfl
          rw [this]
          exact ⟨_, _, rfl⟩
      · rintro e ⟨o5, o6, rfl⟩
        rw [List.length_map, List.take_length]
        repeat walk_at "ev1"

def srcD (a b c : Int) : D := .lst [.int a, .int b, .int c]
def IsSrc (d : D) : Prop := ∃ a b c : Int, d = srcD a b c
theorem mixed_spec (a k : Int) : wR (D_mixed [.int a, .int k]) (fun p => ∃ r, p.1 = .frz (.int r)) fun _ _ => False := by
  unfold D_mixed
  with_reducible refine w_body ?_
  unfold d_mixed
  repeat walk_at "ev1"
  exact ⟨_, rfl⟩
theorem next_spec {s : D} {m : Int} (hs : IsSrc s) (h0 : 0 < m) (h1 : m < 2 ^ 100) : wR (D_next [s, .int m]) (fun p => ∃ r s', 0 ≤ r ∧ r < m ∧ IsSrc s' ∧ p = (.frz (.int r), [s'])) fun _ _ => False := by
  obtain ⟨a, b, c, rfl⟩ := hs
  unfold D_next
  with_reducible refine w_bodyB ?_
  unfold d_next srcD
  repeat walk_at "ev1"
  refine t_ite (fun h => ?_) (fun h => ?_)
  · repeat walk_at "ev1"
    exact ⟨_, _, Int.emod_nonneg _ (by omega), Int.emod_lt_of_pos _ h0, ⟨_, _, _, rfl⟩, rfl⟩
  · repeat walk_at "ev1"
    refine (mixed_spec _ _).mono (fun p ⟨r, e⟩ => ?_) (fun _ _ z => z.elim)
    rw [e]
    repeat walk_at "ev1"
    exact ⟨_, _, Int.emod_nonneg _ (by omega), Int.emod_lt_of_pos _ h0, ⟨_, _, _, rfl⟩, rfl⟩
theorem cell_spec (ns : List Int) : wR (D_cell_at [.scr ns, .int 0]) (fun p => ∃ r, p.1 = .frz (.int r)) fun _ _ => False := by
  unfold D_cell_at
  with_reducible refine w_body ?_
  unfold d_cell_at
  repeat walk_at "ev1"
  refine t_ite (fun h => ?_) (fun h => ?_)
  · repeat walk_at "ev1"
    obtain ⟨d, _, _, e⟩ := gIx_scr (ns := ns) (r := 0) (by decide) h
    refine ⟨_, e, ?_⟩
    repeat walk_at "ev1"
    exact ⟨_, rfl⟩
  · repeat walk_at "ev1"
    exact ⟨_, rfl⟩

open Trk
/-- a track that is one -/
def IsTr (d : D) : Prop := (∃ i : Int, 0 ≤ i ∧ d = .int i) ∨ d = .str (Str.ofString "fit") ∨ ∃ k : Int, 0 < k ∧ d = .tup [.str (Str.ofString "share"), .int k]
theorem IsTr.kd {d : D} (h : IsTr d) : Kd d := by
  rcases h with ⟨i, _, rfl⟩ | rfl | ⟨k, _, rfl⟩
  · exact show Kn (.int i) from rfl
  · exact show Kn (.str (Str.ofString "fit")) from rfl
  · refine ⟨by simp, fun x hx => ?_⟩
    simp only [List.mem_cons, List.not_mem_nil, or_false] at hx
    rcases hx with rfl | rfl <;> rfl
theorem IsTr.ok {d : D} (h : IsTr d) : isTrk d = true := by
  rcases h with ⟨i, h, rfl⟩ | rfl | ⟨k, h, rfl⟩
  · show (decide (0 ≤ i) || _) = true
    rw [decide_eq_true h]
    rfl
  · decide +kernel
  · have : isShr (.tup [.str (Str.ofString "share"), .int k]) = true := by
      show (isWd (Str.ofString "share") (.str (Str.ofString "share")) && isF (.int k)) = true
      rw [show isWd (Str.ofString "share") (.str (Str.ofString "share")) = true by decide +kernel]
      exact decide_eq_true h
    unfold isTrk
    rw [this]
    cases isC (.tup [.str (Str.ofString "share"), .int k]) <;> cases isWd (Str.ofString "fit") (.tup [.str (Str.ofString "share"), .int k]) <;> rfl
theorem IsTr.pl {d : D} (h : IsTr d) : Pl 1 d := by
  rcases h with ⟨i, _, rfl⟩ | rfl | ⟨k, _, rfl⟩
  · exact .int
  · exact .str (by decide +kernel)
  · refine .tup fun x hx => ?_
    simp only [List.mem_cons, List.not_mem_nil, or_false] at hx
    rcases hx with rfl | rfl
    · exact .str (by decide +kernel)
    · exact .int
theorem IsTr.z {d : D} (h : IsTr d) (hw : isW d = false) : zOf d = 0 := by
  rcases h with ⟨i, _, rfl⟩ | rfl | ⟨k, _, rfl⟩
  · cases hw
  · rfl
  · rfl
theorem goodT {tr : List D} (h : ∀ d ∈ tr, IsTr d) (hl : tr.length < 100) : GoodT tr := ⟨hl, fun d hd => (h d hd).kd⟩
theorem okT {tr : List D} (h : ∀ d ∈ tr, IsTr d) (hl : 0 < tr.length) : okTr (.lst tr) = true := by
  show (!decide (tr.length = 0) && tr.all isTrk) = true
  rw [decide_eq_false (by omega)]
  show tr.all isTrk = true
  rw [List.all_eq_true]
  exact fun d hd => (h d hd).ok
theorem zfree {tr : List D} (h : ∀ d ∈ tr, IsTr d) : ∀ t, wAt tr t = false → (sz0 tr).getD t 0 = 0 := by
  intro t hw
  unfold sz0
  unfold wAt at hw
  rw [List.getD_eq_getElem?_getD] at hw ⊢
  rw [List.getElem?_map]
  cases e : tr[t]? with
  | none => rfl
  | some d =>
    rw [e] at hw
    exact (h d (List.mem_of_getElem? e)).z hw
/-- one of three numbers -/
theorem three {a b c lo hi r : Int} (r0 : 0 ≤ r) (r1 : r < 3) (ha : lo ≤ a ∧ a ≤ hi) (hb : lo ≤ b ∧ b ≤ hi) (hc : lo ≤ c ∧ c ≤ hi) : ∃ m : Int, lo ≤ m ∧ m ≤ hi ∧ gIx (.lst [.int a, .int b, .int c]) (.int r) = some (.frz (.int m)) := by
  obtain ⟨d, dm, _, ed⟩ := gIx_lst (ds := [.int a, .int b, .int c]) r0 r1
  simp only [List.mem_cons, List.not_mem_nil, or_false] at dm
  rcases dm with rfl | rfl | rfl
  · exact ⟨_, ha.1, ha.2, ed⟩
  · exact ⟨_, hb.1, hb.2, ed⟩
  · exact ⟨_, hc.1, hc.2, ed⟩

open Trk
/-! the three things: which word is due -/
def Due (T A G : D) (n : Nat) (w : Str) : Prop :=
  (Lk T ∧ okTr T = false ∧ w = Str.ofString "track") ∨ ∃ tr, T = .lst tr ∧ GoodT tr ∧ okTr (.lst tr) = true ∧ tr.length = n ∧ ((Lk A ∧ okAs n A = false ∧ w = Str.ofString "ask") ∨ ∃ as : List Ask, A = .lst (as.map askD) ∧ (∀ a ∈ as, a.f + a.m ≤ tr.length ∧ 0 < a.m ∧ 0 ≤ a.s) ∧ as.length < 60 ∧ ((Kn G ∧ isC G = false ∧ w = Str.ofString "number") ∨ ∃ g : Int, 0 ≤ g ∧ G = .int g ∧ w = Str.ofString "told"))
theorem lk_as {as : List Ask} (hl : as.length < 60) : Lk (.lst (as.map askD)) := ⟨by simp; omega, fun x hx => by
  obtain ⟨a, _, rfl⟩ := List.mem_map.mp hx
  refine ⟨by simp, fun y hy => ?_⟩
  simp only [List.mem_cons, List.not_mem_nil, or_false] at hy
  rcases hy with rfl | rfl | rfl <;> rfl⟩
theorem ok_as {n : Nat} {as : List Ask} (ha : ∀ a ∈ as, a.f + a.m ≤ n ∧ 0 < a.m ∧ 0 ≤ a.s) : okAs n (.lst (as.map askD)) = true := by
  unfold okAs
  rw [List.all_eq_true]
  intro x hx
  obtain ⟨a, ham, rfl⟩ := List.mem_map.mp hx
  obtain ⟨h1, h2, h3⟩ := ha a ham
  show (decide (0 ≤ (a.f : Int)) && (decide (0 < (a.m : Int)) && (decide (0 ≤ a.s) && decide ((a.f : Int) + a.m ≤ n)))) = true
  rw [decide_eq_true (by omega), decide_eq_true (by omega), decide_eq_true h3, decide_eq_true (by omega)]
  rfl
theorem ts_track {T A G : D} (h : Lk T) (hb : okTr T = false) : wR (D_p_track_sizes [T, A, G]) (fun _ => False) fun c _ => c = "NoTrack" := by
  unfold D_p_track_sizes
  with_reducible refine w_body ?_
  unfold d_p_track_sizes
  repeat walk_at "ev1"
  with_reducible refine wR.mono (tracks_spec h) (fun _ z => absurd (hb.symm.trans z) (by decide)) (fun c e z => z.1)
theorem ts_ask {tr : List D} {A G : D} (h : GoodT tr) (hk : okTr (.lst tr) = true) (ha : Lk A) (hb : okAs tr.length A = false) : wR (D_p_track_sizes [.lst tr, A, G]) (fun _ => False) fun c _ => c = "NoAsk" := by
  have hlt : Lk (.lst tr) := ⟨by have := h.len; omega, h.kd⟩
  unfold D_p_track_sizes
  with_reducible refine w_body ?_
  unfold d_p_track_sizes
  repeat walk_at "ev1"
  with_reducible refine wR.mono (tracks_lst hlt) ?_ (fun c e z => absurd (hk.symm.trans z.2) (by decide))
  rintro ⟨z1, _⟩ _
  repeat walk_at "ev1"
  with_reducible refine wR.mono (asks_spec ha) (fun _ z => absurd (hb.symm.trans z) (by decide)) (fun c e z => z.1)
theorem ts_number {tr : List D} {as : List Ask} {G : D} (h : GoodT tr) (hk : okTr (.lst tr) = true) (ha : ∀ a ∈ as, a.f + a.m ≤ tr.length ∧ 0 < a.m ∧ 0 ≤ a.s) (hl : as.length < 60) (hg : Kn G) (hb : isC G = false) : wR (D_p_track_sizes [.lst tr, .lst (as.map askD), G]) (fun _ => False) fun c _ => c = "NoNumber" := by
  have hlt : Lk (.lst tr) := ⟨by have := h.len; omega, h.kd⟩
  have hka := ok_as ha
  have hlk := lk_as hl
  unfold D_p_track_sizes
  with_reducible refine w_body ?_
  unfold d_p_track_sizes
  repeat walk_at "ev1"
  with_reducible refine wR.mono (tracks_lst hlt) ?_ (fun c e z => absurd (hk.symm.trans z.2) (by decide))
  rintro ⟨z1, _⟩ _
  repeat walk_at "ev1"
  with_reducible refine wR.mono (asks_lst hlk) ?_ (fun c e z => absurd (hka.symm.trans z.2) (by decide))
  rintro ⟨z1, _⟩ _
  repeat walk_at "ev1"
  with_reducible refine wR.mono (counts_spec hg) (fun _ z => absurd (hb.symm.trans z) (by decide)) (fun c e z => z.1)
theorem word_er {T A G : D} {c w : Str} (hw : (c = "NoTrack" ∧ w = Str.ofString "track") ∨ (c = "NoAsk" ∧ w = Str.ofString "ask") ∨ (c = "NoNumber" ∧ w = Str.ofString "number")) (h : wR (D_p_track_sizes [T, A, G]) (fun _ => False) fun x _ => x = c) : wR (D_word [T, A, G]) (fun p => p.1 = .frz (.str w)) fun _ _ => False := by
  unfold D_word
  with_reducible refine w_body ?_
  unfold d_word
  repeat walk_at "ev1"
  with_reducible refine wR.mono h (fun _ z => z.elim) ?_
  intro x e hx
  subst hx
  rcases hw with ⟨rfl, rfl⟩ | ⟨rfl, rfl⟩ | ⟨rfl, rfl⟩
  all_goals
    refine ⟨rfl, ?_⟩
    repeat walk_at "ev1"
    refine iteXT (by decide) ?_
    repeat walk_at "ev1"
theorem word_ok {T A G : D} (h : wR (D_p_track_sizes [T, A, G]) (fun _ => True) fun _ _ => False) : wR (D_word [T, A, G]) (fun p => p.1 = .frz (.str (Str.ofString "told"))) fun _ _ => False := by
  unfold D_word
  with_reducible refine w_body ?_
  unfold d_word
  repeat walk_at "ev1"
  with_reducible refine wR.mono h ?_ (fun _ _ z => z.elim)
  rintro ⟨z1, _⟩ _
  repeat walk_at "ev1"
theorem word_spec {T A G : D} {n : Nat} {w : Str} (h : Due T A G n w) : wR (D_word [T, A, G]) (fun p => p.1 = .frz (.str w)) fun _ _ => False := by
  rcases h with ⟨h1, h2, rfl⟩ | ⟨tr, rfl, h1, h2, rfl, h⟩
  · exact word_er (.inl ⟨rfl, rfl⟩) (ts_track h1 h2)
  rcases h with ⟨h3, h4, rfl⟩ | ⟨as, rfl, h3, h4, h⟩
  · exact word_er (.inr (.inl ⟨rfl, rfl⟩)) (ts_ask h1 h2 h3 h4)
  rcases h with ⟨h5, h6, rfl⟩ | ⟨g, h5, rfl, rfl⟩
  · exact word_er (.inr (.inr ⟨rfl, rfl⟩)) (ts_number h1 h2 h3 h4 h5 h6)
  · exact word_ok ((sizes_spec h1 h2 h3 h4 h5).mon fun _ _ => .intro)

open Trk
/-- a thing, known, that == tells of itself -/
def badTracks : List D := [.int (0 - 1), .bl true, .non, .str (Str.ofString "Fit"), .str (Str.ofString ""), .str (Str.ofString "fits"), .tup [.str (Str.ofString "share"), .int 0], .tup [.str (Str.ofString "share"), .int (0 - 2)], .tup [.str (Str.ofString "share")], .tup [.str (Str.ofString "share"), .int 1, .int 1], .tup [.str (Str.ofString "shares"), .int 1], .tup [.str (Str.ofString "share"), .bl true], .tup [.str (Str.ofString "share"), .str (Str.ofString "1")], .lst [.str (Str.ofString "share"), .int 1], .tup [], .tup [.str (Str.ofString "fit"), .int 1], .str (Str.ofString "share")]
def badAsks (n : Int) : List D := [.tup [.int 0, .int 0, .int 5], .tup [.int 0, .int (n + 1), .int 5], .tup [.int n, .int 1, .int 5], .tup [.int (0 - 1), .int 1, .int 5], .tup [.int 0, .int 1, .int (0 - 1)], .tup [.int 0, .int 1], .tup [.int 0, .int 1, .int 5, .int 5], .non, .lst [.int 0, .int 1, .int 5], .tup [.bl true, .int 1, .int 5], .tup [.int 0, .bl true, .int 5], .tup [.int 0, .int 1, .bl false], .tup [.str (Str.ofString "0"), .int 1, .int 5], .tup [.int 0, .int 1, .non], .tup [], .int 5]
def flatK : D → Bool
  | .non => true
  | .bl _ => true
  | .int _ => true
  | .str s => PyData.strOk s
  | _ => false
theorem flatK_pl {d : D} (h : flatK d = true) {n : Nat} : Pl n d := by
  cases d <;> first | (cases h; done) | exact .non | exact .bl | exact .int | exact .str h
theorem flatK_kn {d : D} (h : flatK d = true) : Kn d := by
  cases d <;> first | (cases h; done) | rfl
/-- a flat thing, or a tuple or a list of such -/
def oneK : D → Bool
  | .tup ds => ds.all flatK && decide (ds.length < 1000)
  | .lst ds => ds.all flatK && decide (ds.length < 1000)
  | d => flatK d
theorem oneK_pl : ∀ {d : D}, oneK d = true → Pl 1 d
  | .lst ds, h => by
    obtain ⟨h, _⟩ := Bool.and_eq_true_iff.mp (show (ds.all flatK && decide (ds.length < 1000)) = true from h)
    exact .lst fun x hx => flatK_pl (List.all_eq_true.mp h x hx)
  | .tup ds, h => by
    obtain ⟨h, _⟩ := Bool.and_eq_true_iff.mp (show (ds.all flatK && decide (ds.length < 1000)) = true from h)
    exact .tup fun x hx => flatK_pl (List.all_eq_true.mp h x hx)
  | .non, _ => .non
  | .bl _, _ => .bl
  | .int _, _ => .int
  | .str _, h => .str h
  | .scr _, h => by cases h
  | .dK _ _, h => by cases h
  | .dT _ _, h => by cases h
  | .obj _ _ _, h => by cases h
  | .ty _, h => by cases h
  | .cls _, h => by cases h
theorem oneK_kd : ∀ {d : D}, oneK d = true → Kd d
  | .lst ds, h => show Kn (.lst ds) from rfl
  | .tup ds, h => by
    obtain ⟨h, h2⟩ := Bool.and_eq_true_iff.mp (show (ds.all flatK && decide (ds.length < 1000)) = true from h)
    exact ⟨of_decide_eq_true h2, fun x hx => flatK_kn (List.all_eq_true.mp h x hx)⟩
  | .non, _ => show Kn .non from rfl
  | .bl b, _ => show Kn (.bl b) from rfl
  | .int i, _ => show Kn (.int i) from rfl
  | .str s, h => show Kn (.str s) from rfl
  | .scr _, h => by cases h
  | .dK _ _, h => by cases h
  | .dT _ _, h => by cases h
  | .obj _ _ _, h => by cases h
  | .ty _, h => by cases h
  | .cls _, h => by cases h
theorem bad_tr {d : D} (h : d ∈ badTracks) : isTrk d = false ∧ oneK d = true := by
  have : badTracks.all (fun d => !isTrk d && oneK d) = true := by decide +kernel
  have := List.all_eq_true.mp this d h
  rw [Bool.and_eq_true] at this
  exact ⟨by simpa using this.1, this.2⟩
theorem bad_as {n : Nat} {d : D} (h : d ∈ badAsks n) : isAsk n d = false ∧ oneK d = true := by
  unfold badAsks at h
  simp only [List.mem_cons, List.not_mem_nil, or_false] at h
  rcases h with rfl | rfl | rfl | rfl | rfl | rfl | rfl | rfl | rfl | rfl | rfl | rfl | rfl | rfl | rfl | rfl
  all_goals refine ⟨?_, by first | rfl | decide +kernel⟩
  case inr.inl =>
    show (decide ((0 : Int) ≤ 0) && (decide (0 < (n : Int) + 1) && (decide ((0 : Int) ≤ 5) && decide ((0 : Int) + ((n : Int) + 1) ≤ n)))) = false
    rw [decide_eq_false (show ¬ ((0 : Int) + ((n : Int) + 1) ≤ n) by omega)]
    simp
  case inr.inr.inl =>
    show (decide (0 ≤ (n : Int)) && (decide ((0 : Int) < 1) && (decide ((0 : Int) ≤ 5) && decide ((n : Int) + 1 ≤ n)))) = false
    rw [decide_eq_false (show ¬ ((n : Int) + 1 ≤ n) by omega)]
    simp
  all_goals rfl
theorem bad_track_spec {s : D} (hs : IsSrc s) : wR (D_bad_track [s]) (fun p => ∃ d s', d ∈ badTracks ∧ IsSrc s' ∧ p = (.frz d, [s'])) fun _ _ => False := by
  unfold D_bad_track
  with_reducible refine w_bodyB ?_
  unfold d_bad_track
  repeat walk_at "ev1"
  with_reducible refine wR.mon (next_spec hs (by omega) (by omega)) ?_
  rintro _ ⟨r, s2, r0, r1, hs2, rfl⟩
  repeat walk_at "ev1"
  obtain ⟨d, dm, _, ed⟩ := gIx_lst (ds := badTracks) r0 r1
  refine ⟨_, ed, ?_⟩
  repeat walk_at "ev1"
  exact ⟨d, s2, dm, hs2, rfl⟩
theorem bad_ask_spec {s : D} {n : Int} (hs : IsSrc s) : wR (D_bad_ask [s, .int n]) (fun p => ∃ d s', d ∈ badAsks n ∧ IsSrc s' ∧ p = (.frz d, [s'])) fun _ _ => False := by
  unfold D_bad_ask
  with_reducible refine w_bodyB ?_
  unfold d_bad_ask
  repeat walk_at "ev1"
  with_reducible refine wR.mon (next_spec hs (by omega) (by omega)) ?_
  rintro _ ⟨r, s2, r0, r1, hs2, rfl⟩
  repeat walk_at "ev1"
  obtain ⟨d, dm, _, ed⟩ := gIx_lst (ds := badAsks n) r0 r1
  refine ⟨_, ed, ?_⟩
  repeat walk_at "ev1"
  exact ⟨d, s2, dm, hs2, rfl⟩
/-- a thing that may be handed in: known, and == to itself -/
structure Hand (d : D) : Prop where
  lk : Lk d
  eq : eqPD d d = some true
theorem hand_lst {ds : List D} (hl : ds.length < 1000) (h : ∀ d ∈ ds, oneK d = true) : Hand (.lst ds) :=
  ⟨⟨hl, fun d hd => oneK_kd (h d hd)⟩, pd_pl ((Pl.lst fun d hd => oneK_pl (h d hd)).mono (by decide))⟩
theorem hand_one {d : D} (h : oneK d = true) (hn : ∀ ds, d ≠ .lst ds) : Hand d := by
  refine ⟨?_, pd_pl ((oneK_pl h).mono (by decide))⟩
  have := oneK_kd h
  cases d <;> first | exact absurd rfl (hn _) | exact this
theorem tr_one {d : D} (h : IsTr d) : oneK d = true := by
  rcases h with ⟨i, _, rfl⟩ | rfl | ⟨k, _, rfl⟩
  · rfl
  · decide +kernel
  · show ([D.str (Str.ofString "share"), D.int k].all flatK && decide ([D.str (Str.ofString "share"), D.int k].length < 1000)) = true
    have : flatK (D.str (Str.ofString "share")) = true := by decide +kernel
    simp [flatK]
    exact this
theorem ask_one {a : Ask} : oneK (askD a) = true := rfl
theorem lst_kind {d : D} (h : Lk d) : (∃ ds, d = .lst ds) ∨ isiB d "list" = some false := by
  cases d <;> first | exact .inl ⟨_, rfl⟩ | (exfalso; cases h; done) | exact .inr rfl

theorem gAll_true (k : Nat) : gAll [.lst (List.replicate k (D.bl true))] = some (.frz (.bl true)) := by
  have := gAll_map (f := fun _ : Nat => true) (xs := List.range k)
  rw [List.map_const', List.length_range] at this
  rw [this]
  simp

open Trk
theorem str_self {w : Str} (h : PyData.strOk w = true) : gEqX (.str w) (.str w) = some (.frz (.bl true)) := gEqX_of (gEq_self ((Pl.str (n := 0) h).plain (by decide)))
theorem mem_tak {α : Type} {x : α} {l : List α} {i : Nat} (h : x ∈ l.take i ∨ x ∈ l.drop i) : x ∈ l := by
  rcases h with h | h
  · exact List.mem_of_mem_take h
  · exact List.mem_of_mem_drop h
theorem due_ok {T A G : D} {n : Nat} {w : Str} (h : Due T A G n w) : PyData.strOk w = true := by
  rcases h with ⟨_, _, rfl⟩ | ⟨tr, rfl, _, _, rfl, h⟩
  · decide +kernel
  rcases h with ⟨_, _, rfl⟩ | ⟨as, rfl, _, _, h⟩
  · decide +kernel
  rcases h with ⟨_, _, rfl⟩ | ⟨g, _, rfl, rfl⟩ <;> decide +kernel
theorem good_spec (c : Int) : wR (D_good [.int c]) (fun p => p.1 = .frz (.bl true)) fun _ _ => False := by
  unfold D_good
  with_reducible refine w_body ?_
  unfold d_good
  repeat walk_at "ev1"
  have hs0 : IsSrc (.lst [.int c, .int c, .int 0]) := ⟨c, c, 0, rfl⟩
  with_reducible refine wR.mon (next_spec hs0 (by omega) (by omega)) ?_
  rintro _ ⟨way, s1, w0, w1, hs1, rfl⟩
  repeat walk_at "ev1"
  with_reducible refine wR.mon (next_spec hs1 (by omega) (by omega)) ?_
  rintro _ ⟨who, s2, h0, h1, hs2, rfl⟩
  repeat walk_at "ev1"
  with_reducible refine wR.mon (next_spec hs2 (by omega) (by omega)) ?_
  rintro _ ⟨cn, s3, cn0, cn1, hs3, rfl⟩
  repeat walk_at "ev1"
  obtain ⟨n, hn⟩ : ∃ n : Nat, (1 + cn) = (n : Int) := ⟨(1 + cn).toNat, by omega⟩
  rw [hn]
  have hn0 : 0 < n := by omega
  have hn1 : n ≤ 6 := by omega
  rw [Int.toNat_natCast]
  clear hn cn0 cn1
  refine w_lcD (fun i acc e => ∃ s', acc.length = i ∧ (∀ d ∈ acc, IsTr d) ∧ IsSrc s' ∧ e = [some (.frz (.int c)), some (.own s'), some (.frz (.int way)), some (.frz (.int who)), some (.frz (.int n)), none, none, none, none, none, none, none]) ⟨s3, rfl, by simp, hs3, rfl⟩ ?_ ?_
  · rintro i d acc e hd ⟨s', hl, hacc, hs', rfl⟩
    obtain ⟨hi, rfl⟩ := rangeL_get hd
    refine ⟨_, rfl, ?_⟩
    dsimp only [lendE, List.map_cons, List.map_nil, lend]
    repeat walk_at "ev1"
    with_reducible refine wR.mon (next_spec hs' (by omega) (by omega)) ?_
    rintro _ ⟨r, s6, r0, r1, hs6, rfl⟩
    repeat walk_at "ev1"
    obtain ⟨d, dm, _, ed⟩ := gIx_lst (ds := [.int 7, .str (Str.ofString "fit"), .tup [.str (Str.ofString "share"), .int 2]]) r0 r1
    refine ⟨_, ed, ?_⟩
    refine ⟨by show _ < 16000000; omega, s6, by simp [hl], fun x hx => ?_, hs6, rfl⟩
    rcases List.mem_append.mp hx with h | h
    · exact hacc x h
    · rw [List.mem_singleton.mp h]
      simp only [List.mem_cons, List.not_mem_nil, or_false] at dm
      rcases dm with rfl | rfl | rfl
      · exact .inl ⟨7, by decide, rfl⟩
      · exact .inr (.inl rfl)
      · exact .inr (.inr ⟨2, by decide, rfl⟩)
  · rintro tr e ⟨s4, hl, htr, hs4, rfl⟩
    rw [rangeL_len] at hl
    subst hl
    have hT := goodT htr (by omega)
    have hO := okT htr (by omega)
    repeat walk_at "ev1"
    with_reducible refine wR.mon (next_spec hs4 (by omega) (by omega)) ?_
    rintro _ ⟨my, s5, y0, y1, hs5, rfl⟩
    repeat walk_at "ev1"
    refine w_forD (fun i e => ∃ (as : List Ask) (s' : D) (o6 o8 : Option Sl), as.length = i ∧ (∀ a ∈ as, a.f + a.m ≤ tr.length ∧ 0 < a.m ∧ 0 ≤ a.s) ∧ IsSrc s' ∧ e = [some (.frz (.int c)), some (.own s'), some (.frz (.int way)), some (.frz (.int who)), some (.frz (.int tr.length)), some (.own (.lst tr)), o6, some (.own (.lst (as.map askD))), o8, none, none, none]) ⟨[], s5, _, _, rfl, by simp, hs5, rfl⟩ ?_ ?_
    · rintro i d e hd ⟨as, t1, o6, o8, hal, has, ht1, rfl⟩
      obtain ⟨hi, rfl⟩ := rangeL_get hd
      refine ⟨_, rfl, ?_⟩
      repeat walk_at "ev1"
      with_reducible refine wR.mon (next_spec ht1 (by omega) (by omega)) ?_
      rintro _ ⟨fi, t2, i0, i1, ht2, rfl⟩
      repeat walk_at "ev1"
      with_reducible refine wR.mon (next_spec ht2 (by omega) (by omega)) ?_
      rintro _ ⟨mi, t3, m0, m1, ht3, rfl⟩
      repeat walk_at "ev1"
      with_reducible refine wR.mon (next_spec ht3 (by omega) (by omega)) ?_
      rintro _ ⟨sz, t4, z0, z1, ht4, rfl⟩
      repeat walk_at "ev1"
      obtain ⟨f, rfl⟩ : ∃ f : Nat, fi = f := ⟨fi.toNat, by omega⟩
      obtain ⟨m, hm⟩ : ∃ m : Nat, 1 + mi = m := ⟨(1 + mi).toNat, by omega⟩
      rw [hm]
      refine ⟨as ++ [⟨f, m, sz⟩], t4, _, _, by simp [hal], fun x hx => ?_, ht4, by rw [List.map_append]; rfl⟩
      rcases List.mem_append.mp hx with h | h
      · exact has x h
      · rw [List.mem_singleton.mp h]; exact ⟨by show f + m ≤ tr.length; omega, by show 0 < m; omega, z0⟩
    · rintro e ⟨as, t1, o6, o8, hal, has, ht1, rfl⟩
      rw [rangeL_len] at hal
      have hAl : as.length < 60 := by omega
      repeat walk_at "ev1"
      with_reducible refine wR.mon (next_spec ht1 (by decide) (by decide)) ?_
      rintro _ ⟨gp, t2, g0, g1, ht2, rfl⟩
      walk_at "evs"
      with_reducible refine w_seq ?_
      walk_at "evs"
      -- the gap
      refine w_seqI (fun e => ∃ (G : D) (w : Str), ((Kn G ∧ isC G = false ∧ w = Str.ofString "number") ∨ ∃ g : Int, 0 ≤ g ∧ G = .int g ∧ w = Str.ofString "told") ∧ e = [some (.frz (.int c)), some (.own t2), some (.frz (.int way)), some (.frz (.int who)), some (.frz (.int tr.length)), some (.own (.lst tr)), o6, some (.own (.lst (as.map askD))), o8, some (.frz G), some (.frz (.str w)), none]) ?_ ?_
      · repeat walk_at "ev1"
        refine t_iteY (fun h => ?_) (fun h => ?_)
        · repeat walk_at "ev1"
          obtain ⟨d, dm, _, ed⟩ := gIx_lst (ds := [.int (0 - 1), .non, .bl true, .str (Str.ofString "1"), .lst [.int 1]]) h0 h1
          refine ⟨_, ed, ?_⟩
          repeat walk_at "ev1"
          refine ⟨d, _, .inl ⟨?_, ?_, rfl⟩, rfl⟩
          all_goals
            simp only [List.mem_cons, List.not_mem_nil, or_false] at dm
            rcases dm with rfl | rfl | rfl | rfl | rfl <;> rfl
        · repeat walk_at "ev1"
          exact ⟨_, _, .inr ⟨gp, g0, rfl, rfl⟩, rfl⟩
      · rintro e ⟨G, w, hG, rfl⟩
        -- the asks
        refine w_seqI (fun e => ∃ (A : Sl) (dA : D) (s' : D) (w' : Str), IsSrc s' ∧ Hand dA ∧ (A = .own dA ∨ A = .frz dA) ∧ ((okAs tr.length dA = false ∧ w' = Str.ofString "ask") ∨ (dA = .lst (as.map askD) ∧ w' = w)) ∧ e = [some (.frz (.int c)), some (.own s'), some (.frz (.int way)), some (.frz (.int who)), some (.frz (.int tr.length)), some (.own (.lst tr)), o6, some A, o8, some (.frz G), some (.frz (.str w')), none]) ?_ ?_
        · repeat walk_at "ev1"
          refine t_iteY (fun h => ?_) (fun h => ?_)
          · repeat walk_at "ev1"
            with_reducible refine wR.mon (next_spec ht2 (by rw [List.length_map]; omega) (by rw [List.length_map]; omega)) ?_
            rintro _ ⟨pl, t3, p0, p1, ht3, rfl⟩
            rw [List.length_map] at p1
            repeat walk_at "ev1"
            with_reducible refine wR.mon (bad_ask_spec ht3) ?_
            rintro _ ⟨bd, t4, hbd, ht4, rfl⟩
            obtain ⟨b1, b2⟩ := bad_as hbd
            repeat walk_at "ev1"
            refine ⟨_, _, _, _, rfl, rfl, rfl, if_pos ⟨by show _ < 16000000; rw [List.length_map]; omega, p0, by omega⟩, ?_⟩
            obtain ⟨L, hL⟩ : ∃ L, L = (as.map askD).take pl.toNat ++ [bd] ++ (as.map askD).drop pl.toNat := ⟨_, rfl⟩
            rw [← hL]
            have hm : ∀ x ∈ L, x = bd ∨ ∃ a ∈ as, x = askD a := fun x hx => by
              rw [hL] at hx
              have key : ∀ x, x ∈ as.map askD → ∃ a ∈ as, x = askD a := fun x hx => by
                obtain ⟨a, ha, rfl⟩ := List.mem_map.mp hx
                exact ⟨a, ha, rfl⟩
              rcases List.mem_append.mp hx with hx | hx
              · rcases List.mem_append.mp hx with hx | hx
                · exact .inr (key x (List.mem_of_mem_take hx))
                · exact .inl (List.mem_singleton.mp hx)
              · exact .inr (key x (List.mem_of_mem_drop hx))
            have hlen : L.length < 1000 := by
              rw [hL]
              simp only [List.length_append, List.length_take, List.length_drop, List.length_map, List.length_cons, List.length_nil]
              omega
            have hbad : okAs tr.length (.lst L) = false := by
              show L.all (isAsk tr.length) = false
              rw [List.all_eq_false]
              exact ⟨bd, by rw [hL]; simp, by rw [b1]; decide⟩
            have hand : Hand (.lst L) := hand_lst hlen fun x hx => by
              rcases hm x hx with rfl | ⟨a, _, rfl⟩
              · exact b2
              · exact ask_one
            clear hL hm
            repeat walk_at "ev1"
            refine t_iteY (fun h2 => ?_) (fun h2 => ?_)
            · repeat walk_at "ev1"
              with_reducible refine wR.mon (next_spec ht4 (by omega) (by omega)) ?_
              rintro _ ⟨r, t5, r0, r1, ht5, rfl⟩
              repeat walk_at "ev1"
              obtain ⟨d, dm, _, ed⟩ := gIx_lst (ds := [.non, .tup [], .tup [.tup [.int 0, .int 1, .int 5]], .int 5, .dK [] []]) r0 r1
              refine ⟨_, ed, ?_⟩
              repeat walk_at "ev1"
              have hd : Hand d ∧ okAs tr.length d = false := by
                simp only [List.mem_cons, List.not_mem_nil, or_false] at dm
                rcases dm with rfl | rfl | rfl | rfl | rfl
                · exact ⟨hand_one rfl (fun _ z => nomatch z), rfl⟩
                · exact ⟨hand_one rfl (fun _ z => nomatch z), rfl⟩
                · refine ⟨⟨⟨by decide, fun x hx => by rw [List.mem_singleton.mp hx]; rfl⟩, pd_pl ?_⟩, rfl⟩
                  exact ((Pl.tup fun x hx => by rw [List.mem_singleton.mp hx]; exact oneK_pl rfl : Pl 2 _)).mono (by decide)
                · exact ⟨hand_one rfl (fun _ z => nomatch z), rfl⟩
                · exact ⟨⟨rfl, rfl⟩, rfl⟩
              exact ⟨.frz d, d, t5, _, ht5, hd.1, .inr rfl, .inl ⟨hd.2, rfl⟩, rfl⟩
            · repeat walk_at "ev1"
              exact ⟨.own (.lst L), .lst L, t4, _, ht4, hand, .inl rfl, .inl ⟨hbad, rfl⟩, rfl⟩
          · repeat walk_at "ev1"
            exact ⟨.own (.lst (as.map askD)), _, t2, w, ht2, hand_lst (by rw [List.length_map]; omega) (fun x hx => by obtain ⟨a, _, rfl⟩ := List.mem_map.mp hx; exact ask_one), .inl rfl, .inr ⟨rfl, rfl⟩, rfl⟩
        · rintro e ⟨A, dA, t3, w', ht3, hA, hAo, hAw, rfl⟩
          -- the tracks
          refine w_seqI (fun e => ∃ (T : Sl) (dT : D) (s' : D) (v : Str), IsSrc s' ∧ Hand dT ∧ (T = .own dT ∨ T = .frz dT) ∧ Due dT dA G tr.length v ∧ e = [some (.frz (.int c)), some (.own s'), some (.frz (.int way)), some (.frz (.int who)), some (.frz (.int tr.length)), some T, o6, some A, o8, some (.frz G), some (.frz (.str v)), none]) ?_ ?_
          · repeat walk_at "ev1"
            refine t_iteY (fun h => ?_) (fun h => ?_)
            · repeat walk_at "ev1"
              with_reducible refine wR.mon (bad_track_spec ht3) ?_
              rintro _ ⟨bd, t4, hbd, ht4, rfl⟩
              obtain ⟨b1, b2⟩ := bad_tr hbd
              repeat walk_at "ev1"
              with_reducible refine wR.mon (next_spec ht4 (by omega) (by omega)) ?_
              rintro _ ⟨at', t5, a0, a1, ht5, rfl⟩
              repeat walk_at "ev1"
              have hix : ixN tr.length at' = some at'.toNat := by
                unfold ixN
                rw [if_pos a0, if_pos a1]
              refine ⟨_, _, _, _, rfl, rfl, rfl, rfl, hix, ?_⟩
              have hlt : at'.toNat < tr.length := by omega
              have hand : Hand (.lst (tr.set at'.toNat bd)) := hand_lst (by rw [List.length_set]; omega) fun x hx => by
                rcases List.mem_or_eq_of_mem_set hx with h | rfl
                · exact tr_one (htr x h)
                · exact b2
              have hbad : okTr (.lst (tr.set at'.toNat bd)) = false := by
                show (!decide ((tr.set at'.toNat bd).length = 0) && (tr.set at'.toNat bd).all isTrk) = false
                rw [show (tr.set at'.toNat bd).all isTrk = false from List.all_eq_false.mpr ⟨bd, List.mem_set hlt bd, by rw [b1]; decide⟩]
                simp
              generalize tr.set at'.toNat bd = L at hand hbad ⊢
              repeat walk_at "ev1"
              refine t_iteY (fun h2 => ?_) (fun h2 => ?_)
              · repeat walk_at "ev1"
                with_reducible refine wR.mon (next_spec ht5 (by omega) (by omega)) ?_
                rintro _ ⟨r, t6, r0, r1, ht6, rfl⟩
                repeat walk_at "ev1"
                obtain ⟨d, dm, _, ed⟩ := gIx_lst (ds := [.lst [], .tup [], .non, .tup [.str (Str.ofString "fit")], .str (Str.ofString "fit"), .int 5]) r0 r1
                refine ⟨_, ed, ?_⟩
                repeat walk_at "ev1"
                have hd : Hand d ∧ okTr d = false := by
                  simp only [List.mem_cons, List.not_mem_nil, or_false] at dm
                  rcases dm with rfl | rfl | rfl | rfl | rfl | rfl
                  · exact ⟨hand_lst (by decide) (fun _ h => nomatch h), rfl⟩
                  · exact ⟨hand_one rfl (fun _ z => nomatch z), rfl⟩
                  · exact ⟨hand_one rfl (fun _ z => nomatch z), rfl⟩
                  · exact ⟨hand_one (by decide +kernel) (fun _ z => nomatch z), rfl⟩
                  · exact ⟨hand_one (by decide +kernel) (fun _ z => nomatch z), rfl⟩
                  · exact ⟨hand_one rfl (fun _ z => nomatch z), rfl⟩
                exact ⟨.frz d, d, t6, _, ht6, hd.1, .inr rfl, .inl ⟨hd.1.lk, hd.2, rfl⟩, rfl⟩
              · repeat walk_at "ev1"
                exact ⟨.own (.lst L), .lst L, t5, _, ht5, hand, .inl rfl, .inl ⟨hand.lk, hbad, rfl⟩, rfl⟩
            · repeat walk_at "ev1"
              refine ⟨.own (.lst tr), .lst tr, t3, w', ht3, hand_lst (by omega) (fun x hx => tr_one (htr x hx)), .inl rfl, .inr ⟨tr, rfl, hT, hO, rfl, ?_⟩, rfl⟩
              rcases hAw with ⟨h1, h2⟩ | ⟨h1, h2⟩
              · exact .inl ⟨hA.lk, h1, h2⟩
              · exact .inr ⟨as, h1, has, hAl, by rw [h2]; exact hG⟩
          · rintro e ⟨T, dT, t4, v, ht4, hTd, hTo, hD, rfl⟩
            refine w_seqI (fun e => e = [some (.frz (.int c)), some (.own t4), some (.frz (.int way)), some (.frz (.int who)), some (.frz (.int tr.length)), some (.frz dT), o6, some (.frz dA), o8, some (.frz G), some (.frz (.str v)), some (.own (.lst [dT, dA]))]) ?_ ?_
            · rcases hTo with rfl | rfl <;> rcases hAo with rfl | rfl <;> (repeat walk_at "ev1") <;> rfl
            · rintro e rfl
              refine w_seqI (fun e => e = [some (.frz (.int c)), some (.own t4), some (.frz (.int way)), some (.frz (.int who)), some (.frz (.int tr.length)), some (.frz dT), o6, some (.frz dA), o8, some (.frz G), some (.frz (.str v)), some (.own (.lst [dT, dA]))]) ?_ ?_
              · rcases lst_kind hTd.lk with ⟨ds, rfl⟩ | hk
                · repeat walk_at "ev1"
                  all_goals rfl
                · refine w_if (w_bool (w_peekI rfl rfl hk ⟨_, rfl, ?_⟩))
                  repeat walk_at "ev1"
                  all_goals rfl
              · rintro e rfl
                refine w_seqI (fun e => e = [some (.frz (.int c)), some (.own t4), some (.frz (.int way)), some (.frz (.int who)), some (.frz (.int tr.length)), some (.frz dT), o6, some (.frz dA), o8, some (.frz G), some (.frz (.str v)), some (.own (.lst [dT, dA]))]) ?_ ?_
                · rcases lst_kind hA.lk with ⟨ds, rfl⟩ | hk
                  · repeat walk_at "ev1"
                    all_goals rfl
                  · refine w_if (w_bool (w_peekI rfl rfl hk ⟨_, rfl, ?_⟩))
                    repeat walk_at "ev1"
                    all_goals rfl
                · rintro e rfl
                  have hv := due_ok hD
                  repeat walk_at "ev1"
                  with_reducible refine wR.mon (word_spec hD) ?_
                  rintro ⟨_, p2⟩ rfl
                  repeat walk_at "ev1"
                  refine ⟨_, str_self hv, ?_⟩
                  repeat walk_at "ev1"
                  refine ⟨_, gEqX_pair hTd.eq hA.eq, ?_⟩
                  repeat walk_at "ev1"

theorem law_w (ns : List Int) (hn : ns.length ≤ 63) : wR (D_law [.scr ns]) (fun p => p.1 = .frz (.bl true)) fun _ _ => False := by
  unfold D_law
  with_reducible refine w_body ?_
  unfold d_law
  repeat walk_at "ev1"
  with_reducible refine wR.mon (cell_spec ns) ?_
  rintro ⟨_, p2⟩ ⟨c0, rfl⟩
  repeat walk_at "ev1"
  have hc : (cutL ns (some 1) (some 8)).length ≤ ns.length := by
    unfold cutL
    simp only [List.length_take, List.length_drop]
    omega
  refine ⟨_, gAdd_lst (by simp; omega), ?_⟩
  repeat walk_at "ev1"
  refine w_lcD (fun i acc e => acc = List.replicate i (.bl true) ∧ e = [some (.frz (.scr ns)), none]) ⟨rfl, rfl⟩ ?_ ?_
  · rintro i d acc e hd ⟨rfl, rfl⟩
    have hd2 : ∃ c : Int, d = .int c := by
      have hm := List.mem_of_getElem? hd
      rcases List.mem_cons.mp hm with h | h
      · exact ⟨_, h⟩
      · obtain ⟨x, _, rfl⟩ := List.mem_map.mp h
        exact ⟨x, rfl⟩
    have hi := (List.getElem?_eq_some_iff.mp hd).1
    simp at hi
    obtain ⟨c, rfl⟩ := hd2
    refine ⟨_, rfl, ?_⟩
    dsimp only [lendE, List.map_cons, List.map_nil, lend]
    repeat walk_at "ev1"
    with_reducible refine wR.mon (good_spec c) ?_
    rintro ⟨_, p2⟩ rfl
    refine ⟨by show _ < 16000000; simp; omega, ?_, rfl⟩
    show List.replicate i (D.bl true) ++ [D.bl true] = List.replicate (i + 1) (D.bl true)
    rw [List.replicate_succ']
  · rintro acc e ⟨rfl, rfl⟩
    repeat walk_at "ev1"
    refine ⟨_, gAll_true (_ + 1), ?_⟩
    repeat walk_at "ev1"
theorem law_true : ∀ ns : List Int, ns.length ≤ 63 → ∃ bs, D_law [.scr ns] = .ok (.frz (.bl true), bs) := by
  intro ns hn
  obtain ⟨⟨x, bs⟩, e, h⟩ := (law_w ns hn).ok
  exact ⟨bs, by rw [e]; cases h; rfl⟩

end
theorem all_mk {l : PySem.W.OpenLaw} {w : World} {K : PySem.W.Frag} {h : Heap} {mg : Str → Option Value} {fa : Addr} (X : K.In h) (G : h.Ns mainGlobals mg) (hfa : mg "law" = some (.ref fa))
    {f0 f1 f2 f3 f4 f5 f6 f7 f8 f9 f10 f11 f12 f13 f14 f15 f16 f17 f18 f19 f20 f21 : Addr} {od0 an0 od1 an1 od2 an2 od3 an3 od4 an4 od5 an5 od6 an6 od7 an7 od8 an8 od9 an9 od10 an10 od11 an11 od12 an12 od13 an13 od14 an14 od15 an15 od16 an16 od17 an17 od18 an18 od19 an19 od20 an20 od21 an21 : Option Addr} {sl0 sl1 sl2 sl3 sl4 sl5 sl6 sl7 sl8 sl9 sl10 sl11 sl12 sl13 sl14 sl15 sl16 sl17 sl18 sl19 sl20 sl21 : Array (Option Value)}
    {C_NoNumber C_NoTrack C_NoAsk C_NestError : Addr}
    {oc0 dc0 pm0 cd0 ct0 kV0 oc1 dc1 pm1 cd1 ct1 kV1 oc2 dc2 pm2 cd2 ct2 kV2 oc3 dc3 pm3 cd3 ct3 kV3 oc4 dc4 pm4 cd4 ct4 kV4 oc5 dc5 pm5 cd5 ct5 kV5 oc6 dc6 pm6 cd6 ct6 kV6 oc7 dc7 pm7 cd7 ct7 kV7 oc8 dc8 pm8 cd8 ct8 kV8 oc9 dc9 pm9 cd9 ct9 kV9 oc10 dc10 pm10 cd10 ct10 kV10 oc11 dc11 pm11 cd11 ct11 kV11 oc12 dc12 pm12 cd12 ct12 kV12 oc13 dc13 pm13 cd13 ct13 kV13 oc14 dc14 pm14 cd14 ct14 kV14 oc15 dc15 pm15 cd15 ct15 kV15 oc16 dc16 pm16 cd16 ct16 kV16 oc17 dc17 pm17 cd17 ct17 kV17 oc18 dc18 pm18 cd18 ct18 kV18 oc19 dc19 pm19 cd19 ct19 kV19 oc20 dc20 pm20 cd20 ct20 kV20 oc21 dc21 pm21 cd21 ct21 kV21 : Value}
    (a0 : PySem.W.nsIn K mainGlobals "is_whole" = some (some (.ref f0))) (l0 : K.lookup f0 = some ⟨oc0, od0, .func (PySem.W.fnOf "is_whole" "is_whole" (defArgs s_p_is_whole) (defBody s_p_is_whole) (defScope s_p_is_whole) .none kV0 dc0 pm0 an0 cd0 ct0), sl0⟩) (c0 : PySem.W.codeIn K cd0 "is_whole" = true) (k0 : PySem.W.keepIn K (.ref f0) = true)
    (a1 : PySem.W.nsIn K mainGlobals "is_count" = some (some (.ref f1))) (l1 : K.lookup f1 = some ⟨oc1, od1, .func (PySem.W.fnOf "is_count" "is_count" (defArgs s_p_is_count) (defBody s_p_is_count) (defScope s_p_is_count) .none kV1 dc1 pm1 an1 cd1 ct1), sl1⟩) (c1 : PySem.W.codeIn K cd1 "is_count" = true) (k1 : PySem.W.keepIn K (.ref f1) = true)
    (a2 : PySem.W.nsIn K mainGlobals "refuse_no_counts" = some (some (.ref f2))) (l2 : K.lookup f2 = some ⟨oc2, od2, .func (PySem.W.fnOf "refuse_no_counts" "refuse_no_counts" (defArgs s_p_refuse_no_counts) (defBody s_p_refuse_no_counts) (defScope s_p_refuse_no_counts) .none kV2 dc2 pm2 an2 cd2 ct2), sl2⟩) (c2 : PySem.W.codeIn K cd2 "refuse_no_counts" = true) (k2 : PySem.W.keepIn K (.ref f2) = true)
    (a3 : PySem.W.nsIn K mainGlobals "running_parts" = some (some (.ref f3))) (l3 : K.lookup f3 = some ⟨oc3, od3, .func (PySem.W.fnOf "running_parts" "running_parts" (defArgs s_p_running_parts) (defBody s_p_running_parts) (defScope s_p_running_parts) .none kV3 dc3 pm3 an3 cd3 ct3), sl3⟩) (c3 : PySem.W.codeIn K cd3 "running_parts" = true) (k3 : PySem.W.keepIn K (.ref f3) = true)
    (a4 : PySem.W.nsIn K mainGlobals "is_one_of" = some (some (.ref f4))) (l4 : K.lookup f4 = some ⟨oc4, od4, .func (PySem.W.fnOf "is_one_of" "is_one_of" (defArgs s_p_is_one_of) (defBody s_p_is_one_of) (defScope s_p_is_one_of) .none kV4 dc4 pm4 an4 cd4 ct4), sl4⟩) (c4 : PySem.W.codeIn K cd4 "is_one_of" = true) (k4 : PySem.W.keepIn K (.ref f4) = true)
    (a5 : PySem.W.nsIn K mainGlobals "is_from_one" = some (some (.ref f5))) (l5 : K.lookup f5 = some ⟨oc5, od5, .func (PySem.W.fnOf "is_from_one" "is_from_one" (defArgs s_p_is_from_one) (defBody s_p_is_from_one) (defScope s_p_is_from_one) .none kV5 dc5 pm5 an5 cd5 ct5), sl5⟩) (c5 : PySem.W.codeIn K cd5 "is_from_one" = true) (k5 : PySem.W.keepIn K (.ref f5) = true)
    (a6 : PySem.W.nsIn K mainGlobals "is_track" = some (some (.ref f6))) (l6 : K.lookup f6 = some ⟨oc6, od6, .func (PySem.W.fnOf "is_track" "is_track" (defArgs s_p_is_track) (defBody s_p_is_track) (defScope s_p_is_track) .none kV6 dc6 pm6 an6 cd6 ct6), sl6⟩) (c6 : PySem.W.codeIn K cd6 "is_track" = true) (k6 : PySem.W.keepIn K (.ref f6) = true)
    (a7 : PySem.W.nsIn K mainGlobals "is_share" = some (some (.ref f7))) (l7 : K.lookup f7 = some ⟨oc7, od7, .func (PySem.W.fnOf "is_share" "is_share" (defArgs s_p_is_share) (defBody s_p_is_share) (defScope s_p_is_share) .none kV7 dc7 pm7 an7 cd7 ct7), sl7⟩) (c7 : PySem.W.codeIn K cd7 "is_share" = true) (k7 : PySem.W.keepIn K (.ref f7) = true)
    (a8 : PySem.W.nsIn K mainGlobals "refuse_no_tracks" = some (some (.ref f8))) (l8 : K.lookup f8 = some ⟨oc8, od8, .func (PySem.W.fnOf "refuse_no_tracks" "refuse_no_tracks" (defArgs s_p_refuse_no_tracks) (defBody s_p_refuse_no_tracks) (defScope s_p_refuse_no_tracks) .none kV8 dc8 pm8 an8 cd8 ct8), sl8⟩) (c8 : PySem.W.codeIn K cd8 "refuse_no_tracks" = true) (k8 : PySem.W.keepIn K (.ref f8) = true)
    (a9 : PySem.W.nsIn K mainGlobals "track_sizes" = some (some (.ref f9))) (l9 : K.lookup f9 = some ⟨oc9, od9, .func (PySem.W.fnOf "track_sizes" "track_sizes" (defArgs s_p_track_sizes) (defBody s_p_track_sizes) (defScope s_p_track_sizes) .none kV9 dc9 pm9 an9 cd9 ct9), sl9⟩) (c9 : PySem.W.codeIn K cd9 "track_sizes" = true) (k9 : PySem.W.keepIn K (.ref f9) = true)
    (a10 : PySem.W.nsIn K mainGlobals "refuse_no_asks" = some (some (.ref f10))) (l10 : K.lookup f10 = some ⟨oc10, od10, .func (PySem.W.fnOf "refuse_no_asks" "refuse_no_asks" (defArgs s_p_refuse_no_asks) (defBody s_p_refuse_no_asks) (defScope s_p_refuse_no_asks) .none kV10 dc10 pm10 an10 cd10 ct10), sl10⟩) (c10 : PySem.W.codeIn K cd10 "refuse_no_asks" = true) (k10 : PySem.W.keepIn K (.ref f10) = true)
    (a11 : PySem.W.nsIn K mainGlobals "is_ask" = some (some (.ref f11))) (l11 : K.lookup f11 = some ⟨oc11, od11, .func (PySem.W.fnOf "is_ask" "is_ask" (defArgs s_p_is_ask) (defBody s_p_is_ask) (defScope s_p_is_ask) .none kV11 dc11 pm11 an11 cd11 ct11), sl11⟩) (c11 : PySem.W.codeIn K cd11 "is_ask" = true) (k11 : PySem.W.keepIn K (.ref f11) = true)
    (a12 : PySem.W.nsIn K mainGlobals "grown" = some (some (.ref f12))) (l12 : K.lookup f12 = some ⟨oc12, od12, .func (PySem.W.fnOf "grown" "grown" (defArgs s_p_grown) (defBody s_p_grown) (defScope s_p_grown) .none kV12 dc12 pm12 an12 cd12 ct12), sl12⟩) (c12 : PySem.W.codeIn K cd12 "grown" = true) (k12 : PySem.W.keepIn K (.ref f12) = true)
    (a13 : PySem.W.nsIn K mainGlobals "stretch_of" = some (some (.ref f13))) (l13 : K.lookup f13 = some ⟨oc13, od13, .func (PySem.W.fnOf "stretch_of" "stretch_of" (defArgs s_p_stretch_of) (defBody s_p_stretch_of) (defScope s_p_stretch_of) .none kV13 dc13 pm13 an13 cd13 ct13), sl13⟩) (c13 : PySem.W.codeIn K cd13 "stretch_of" = true) (k13 : PySem.W.keepIn K (.ref f13) = true)
    (a14 : PySem.W.nsIn K mainGlobals "_law_cell_at" = some (some (.ref f14))) (l14 : K.lookup f14 = some ⟨oc14, od14, .func (PySem.W.fnOf "_law_cell_at" "_law_cell_at" (defArgs s_cell_at) (defBody s_cell_at) (defScope s_cell_at) .none kV14 dc14 pm14 an14 cd14 ct14), sl14⟩) (c14 : PySem.W.codeIn K cd14 "_law_cell_at" = true) (k14 : PySem.W.keepIn K (.ref f14) = true)
    (a15 : PySem.W.nsIn K mainGlobals "_law_mixed" = some (some (.ref f15))) (l15 : K.lookup f15 = some ⟨oc15, od15, .func (PySem.W.fnOf "_law_mixed" "_law_mixed" (defArgs s_mixed) (defBody s_mixed) (defScope s_mixed) .none kV15 dc15 pm15 an15 cd15 ct15), sl15⟩) (c15 : PySem.W.codeIn K cd15 "_law_mixed" = true) (k15 : PySem.W.keepIn K (.ref f15) = true)
    (a16 : PySem.W.nsIn K mainGlobals "_law_next" = some (some (.ref f16))) (l16 : K.lookup f16 = some ⟨oc16, od16, .func (PySem.W.fnOf "_law_next" "_law_next" (defArgs s_next) (defBody s_next) (defScope s_next) .none kV16 dc16 pm16 an16 cd16 ct16), sl16⟩) (c16 : PySem.W.codeIn K cd16 "_law_next" = true) (k16 : PySem.W.keepIn K (.ref f16) = true)
    (a17 : PySem.W.nsIn K mainGlobals "_law_word" = some (some (.ref f17))) (l17 : K.lookup f17 = some ⟨oc17, od17, .func (PySem.W.fnOf "_law_word" "_law_word" (defArgs s_word) (defBody s_word) (defScope s_word) .none kV17 dc17 pm17 an17 cd17 ct17), sl17⟩) (c17 : PySem.W.codeIn K cd17 "_law_word" = true) (k17 : PySem.W.keepIn K (.ref f17) = true)
    (a18 : PySem.W.nsIn K mainGlobals "_law_bad_track" = some (some (.ref f18))) (l18 : K.lookup f18 = some ⟨oc18, od18, .func (PySem.W.fnOf "_law_bad_track" "_law_bad_track" (defArgs s_bad_track) (defBody s_bad_track) (defScope s_bad_track) .none kV18 dc18 pm18 an18 cd18 ct18), sl18⟩) (c18 : PySem.W.codeIn K cd18 "_law_bad_track" = true) (k18 : PySem.W.keepIn K (.ref f18) = true)
    (a19 : PySem.W.nsIn K mainGlobals "_law_bad_ask" = some (some (.ref f19))) (l19 : K.lookup f19 = some ⟨oc19, od19, .func (PySem.W.fnOf "_law_bad_ask" "_law_bad_ask" (defArgs s_bad_ask) (defBody s_bad_ask) (defScope s_bad_ask) .none kV19 dc19 pm19 an19 cd19 ct19), sl19⟩) (c19 : PySem.W.codeIn K cd19 "_law_bad_ask" = true) (k19 : PySem.W.keepIn K (.ref f19) = true)
    (a20 : PySem.W.nsIn K mainGlobals "_law_good" = some (some (.ref f20))) (l20 : K.lookup f20 = some ⟨oc20, od20, .func (PySem.W.fnOf "_law_good" "_law_good" (defArgs s_good) (defBody s_good) (defScope s_good) .none kV20 dc20 pm20 an20 cd20 ct20), sl20⟩) (c20 : PySem.W.codeIn K cd20 "_law_good" = true) (k20 : PySem.W.keepIn K (.ref f20) = true)
    (a21 : PySem.W.nsIn K mainGlobals "law" = some (some (.ref f21))) (l21 : K.lookup f21 = some ⟨oc21, od21, .func (PySem.W.fnOf "law" "law" (defArgs s_law) (defBody s_law) (defScope s_law) .none kV21 dc21 pm21 an21 cd21 ct21), sl21⟩) (c21 : PySem.W.codeIn K cd21 "law" = true) (k21 : PySem.W.keepIn K (.ref f21) = true)
    (aC_NoNumber : PySem.W.nsIn K mainGlobals "NoNumber" = some (some (.ref C_NoNumber)))
    (aC_NoTrack : PySem.W.nsIn K mainGlobals "NoTrack" = some (some (.ref C_NoTrack)))
    (aC_NoAsk : PySem.W.nsIn K mainGlobals "NoAsk" = some (some (.ref C_NoAsk)))
    (aC_NestError : PySem.W.nsIn K mainGlobals "NestError" = some (some (.ref C_NestError)))
    (xi_NoNumber : PySem.W.excIn K C_NoNumber [.type "ValueError", .type "Exception", .type "BaseException", .type "object"] "ValueError.__new__" = true)
    (kk_NoNumber : PySem.W.keepIn K (.ref C_NoNumber) = true)
    (bb_NoNumber : PySem.W.subIn K (.ref C_NoNumber) (.type "BaseException") = some true)
    (tt_NoNumber : PySem.W.typeIn K (.ref C_NoNumber) = some (.type "type"))
    (hg_NoNumber : PySem.W.findIn K (.ref C_NoNumber) "__getattribute__" = some (some (.builtin "BaseException.__getattribute__")))
    (hk_NoNumber : PySem.W.findIn K (.ref C_NoNumber) "__getattr__" = some none)
    (hd_NoNumber : PySem.W.hasDictIn K C_NoNumber = true)
    (ha_NoNumber : PySem.W.findIn K (.ref C_NoNumber) "__class__" = some (some (.builtin "object.__class__")))
    (hn_NoNumber : PySem.W.specialIn K (.builtin "object.__class__") "__get__" = some (some (.builtin "getset_descriptor.__get__")))
    (ht_NoNumber : PySem.W.takesIn K (.builtin "object.__class__") = some true)
    (hm_NoNumber : PySem.W.mroIn K C_NoNumber (.type "object") = some true)
    (xi_NoTrack : PySem.W.excIn K C_NoTrack [.type "ValueError", .type "Exception", .type "BaseException", .type "object"] "ValueError.__new__" = true)
    (kk_NoTrack : PySem.W.keepIn K (.ref C_NoTrack) = true)
    (bb_NoTrack : PySem.W.subIn K (.ref C_NoTrack) (.type "BaseException") = some true)
    (tt_NoTrack : PySem.W.typeIn K (.ref C_NoTrack) = some (.type "type"))
    (hg_NoTrack : PySem.W.findIn K (.ref C_NoTrack) "__getattribute__" = some (some (.builtin "BaseException.__getattribute__")))
    (hk_NoTrack : PySem.W.findIn K (.ref C_NoTrack) "__getattr__" = some none)
    (hd_NoTrack : PySem.W.hasDictIn K C_NoTrack = true)
    (ha_NoTrack : PySem.W.findIn K (.ref C_NoTrack) "__class__" = some (some (.builtin "object.__class__")))
    (hn_NoTrack : PySem.W.specialIn K (.builtin "object.__class__") "__get__" = some (some (.builtin "getset_descriptor.__get__")))
    (ht_NoTrack : PySem.W.takesIn K (.builtin "object.__class__") = some true)
    (hm_NoTrack : PySem.W.mroIn K C_NoTrack (.type "object") = some true)
    (xi_NoAsk : PySem.W.excIn K C_NoAsk [.type "ValueError", .type "Exception", .type "BaseException", .type "object"] "ValueError.__new__" = true)
    (kk_NoAsk : PySem.W.keepIn K (.ref C_NoAsk) = true)
    (bb_NoAsk : PySem.W.subIn K (.ref C_NoAsk) (.type "BaseException") = some true)
    (tt_NoAsk : PySem.W.typeIn K (.ref C_NoAsk) = some (.type "type"))
    (hg_NoAsk : PySem.W.findIn K (.ref C_NoAsk) "__getattribute__" = some (some (.builtin "BaseException.__getattribute__")))
    (hk_NoAsk : PySem.W.findIn K (.ref C_NoAsk) "__getattr__" = some none)
    (hd_NoAsk : PySem.W.hasDictIn K C_NoAsk = true)
    (ha_NoAsk : PySem.W.findIn K (.ref C_NoAsk) "__class__" = some (some (.builtin "object.__class__")))
    (hn_NoAsk : PySem.W.specialIn K (.builtin "object.__class__") "__get__" = some (some (.builtin "getset_descriptor.__get__")))
    (ht_NoAsk : PySem.W.takesIn K (.builtin "object.__class__") = some true)
    (hm_NoAsk : PySem.W.mroIn K C_NoAsk (.type "object") = some true)
    (bd_NoNumber_NestError : PySem.W.subIn K (.ref C_NestError) (.type "BaseException") = some true)
    (dd_NoNumber_NestError : PySem.W.hasDictIn K C_NestError = true)
    (td_NoNumber_NestError : PySem.W.typeIn K (.ref C_NestError) = some (.type "type"))
    (sd_NoNumber_NestError : PySem.W.subIn K (.ref C_NoNumber) (.ref C_NestError) = some true)
    (bd_NoTrack_NestError : PySem.W.subIn K (.ref C_NestError) (.type "BaseException") = some true)
    (dd_NoTrack_NestError : PySem.W.hasDictIn K C_NestError = true)
    (td_NoTrack_NestError : PySem.W.typeIn K (.ref C_NestError) = some (.type "type"))
    (sd_NoTrack_NestError : PySem.W.subIn K (.ref C_NoTrack) (.ref C_NestError) = some true)
    (bd_NoAsk_NestError : PySem.W.subIn K (.ref C_NestError) (.type "BaseException") = some true)
    (dd_NoAsk_NestError : PySem.W.hasDictIn K C_NestError = true)
    (td_NoAsk_NestError : PySem.W.typeIn K (.ref C_NestError) = some (.type "type"))
    (sd_NoAsk_NestError : PySem.W.subIn K (.ref C_NoAsk) (.ref C_NestError) = some true)
    (kt_NoNumber_NoTrack : PySem.W.kitOne K (.ref C_NoNumber) (.ref C_NoTrack) = some false)
    (kt_NoNumber_NoAsk : PySem.W.kitOne K (.ref C_NoNumber) (.ref C_NoAsk) = some false)
    (kt_NoNumber_NoNumber : PySem.W.kitOne K (.ref C_NoNumber) (.ref C_NoNumber) = some true)
    (kt_NoTrack_NoTrack : PySem.W.kitOne K (.ref C_NoTrack) (.ref C_NoTrack) = some true)
    (kt_NoTrack_NoAsk : PySem.W.kitOne K (.ref C_NoTrack) (.ref C_NoAsk) = some false)
    (kt_NoTrack_NoNumber : PySem.W.kitOne K (.ref C_NoTrack) (.ref C_NoNumber) = some false)
    (kt_NoAsk_NoTrack : PySem.W.kitOne K (.ref C_NoAsk) (.ref C_NoTrack) = some false)
    (kt_NoAsk_NoAsk : PySem.W.kitOne K (.ref C_NoAsk) (.ref C_NoAsk) = some true)
    (kt_NoAsk_NoNumber : PySem.W.kitOne K (.ref C_NoAsk) (.ref C_NoNumber) = some false)
    (kv_NoNumber_ValueError : PySem.W.kitOne K (.ref C_NoNumber) (.type "ValueError") = some true)
    (kv_NoTrack_ValueError : PySem.W.kitOne K (.ref C_NoTrack) (.type "ValueError") = some true)
    (kv_NoAsk_ValueError : PySem.W.kitOne K (.ref C_NoAsk) (.type "ValueError") = some true)
    (z_isinstance : PySem.W.nsIn K mainGlobals "isinstance" = some none)
    (z_int : PySem.W.nsIn K mainGlobals "int" = some none)
    (z_bool : PySem.W.nsIn K mainGlobals "bool" = some none)
    (z_sum : PySem.W.nsIn K mainGlobals "sum" = some none)
    (z_str : PySem.W.nsIn K mainGlobals "str" = some none)
    (z_tuple : PySem.W.nsIn K mainGlobals "tuple" = some none)
    (z_len : PySem.W.nsIn K mainGlobals "len" = some none)
    (z_all : PySem.W.nsIn K mainGlobals "all" = some none)
    (z_list : PySem.W.nsIn K mainGlobals "list" = some none)
    (z_sorted : PySem.W.nsIn K mainGlobals "sorted" = some none)
    (z_set : PySem.W.nsIn K mainGlobals "set" = some none)
    (z_max : PySem.W.nsIn K mainGlobals "max" = some none)
    (z_zip : PySem.W.nsIn K mainGlobals "zip" = some none)
    (z_range : PySem.W.nsIn K mainGlobals "range" = some none)
    (z_ValueError : PySem.W.nsIn K mainGlobals "ValueError" = some none) :
    ∃ fd : FuncData, (∀ (s : Shared) (v : Value), BindsTo s fd ⟨[v], []⟩ [("_law_script", v)]) ∧ ∀ base : Heap, K.In base → base.Ns mainGlobals mg → FnOk l.prog w K mg base CX0 10 fa fd ["_law_script"] (spLaw K) := by
  have e := hfa.symm.trans (PySem.W.mg_of X G a21)
  cases e
  have H0 : Has K mg "is_whole" s_p_is_whole ["thing"] := has_mk (fun_mk (st := s_p_is_whole) l0 c0 k0) (PySem.W.mg_of X G a0) (fun _ _ _ _ _ _ us hl => match us, hl with | [_], _ => rfl)
  have H1 : Has K mg "is_count" s_p_is_count ["thing"] := has_mk (fun_mk (st := s_p_is_count) l1 c1 k1) (PySem.W.mg_of X G a1) (fun _ _ _ _ _ _ us hl => match us, hl with | [_], _ => rfl)
  have H2 : Has K mg "refuse_no_counts" s_p_refuse_no_counts ["things"] := has_mk (fun_mk (st := s_p_refuse_no_counts) l2 c2 k2) (PySem.W.mg_of X G a2) (fun _ _ _ _ _ _ us hl => match us, hl with | [_], _ => rfl)
  have H3 : Has K mg "running_parts" s_p_running_parts ["room", "weights"] := has_mk (fun_mk (st := s_p_running_parts) l3 c3 k3) (PySem.W.mg_of X G a3) (fun _ _ _ _ _ _ us hl => match us, hl with | [_, _], _ => rfl)
  have H4 : Has K mg "is_one_of" s_p_is_one_of ["thing", "words"] := has_mk (fun_mk (st := s_p_is_one_of) l4 c4 k4) (PySem.W.mg_of X G a4) (fun _ _ _ _ _ _ us hl => match us, hl with | [_, _], _ => rfl)
  have H5 : Has K mg "is_from_one" s_p_is_from_one ["thing"] := has_mk (fun_mk (st := s_p_is_from_one) l5 c5 k5) (PySem.W.mg_of X G a5) (fun _ _ _ _ _ _ us hl => match us, hl with | [_], _ => rfl)
  have H6 : Has K mg "is_track" s_p_is_track ["thing"] := has_mk (fun_mk (st := s_p_is_track) l6 c6 k6) (PySem.W.mg_of X G a6) (fun _ _ _ _ _ _ us hl => match us, hl with | [_], _ => rfl)
  have H7 : Has K mg "is_share" s_p_is_share ["thing"] := has_mk (fun_mk (st := s_p_is_share) l7 c7 k7) (PySem.W.mg_of X G a7) (fun _ _ _ _ _ _ us hl => match us, hl with | [_], _ => rfl)
  have H8 : Has K mg "refuse_no_tracks" s_p_refuse_no_tracks ["things"] := has_mk (fun_mk (st := s_p_refuse_no_tracks) l8 c8 k8) (PySem.W.mg_of X G a8) (fun _ _ _ _ _ _ us hl => match us, hl with | [_], _ => rfl)
  have H9 : Has K mg "track_sizes" s_p_track_sizes ["tracks", "asks", "gap"] := has_mk (fun_mk (st := s_p_track_sizes) l9 c9 k9) (PySem.W.mg_of X G a9) (fun _ _ _ _ _ _ us hl => match us, hl with | [_, _, _], _ => rfl)
  have H10 : Has K mg "refuse_no_asks" s_p_refuse_no_asks ["things", "tracks"] := has_mk (fun_mk (st := s_p_refuse_no_asks) l10 c10 k10) (PySem.W.mg_of X G a10) (fun _ _ _ _ _ _ us hl => match us, hl with | [_, _], _ => rfl)
  have H11 : Has K mg "is_ask" s_p_is_ask ["thing", "tracks"] := has_mk (fun_mk (st := s_p_is_ask) l11 c11 k11) (PySem.W.mg_of X G a11) (fun _ _ _ _ _ _ us hl => match us, hl with | [_, _], _ => rfl)
  have H12 : Has K mg "grown" s_p_grown ["tracks", "sizes", "asks", "gap"] := has_mk (fun_mk (st := s_p_grown) l12 c12 k12) (PySem.W.mg_of X G a12) (fun _ _ _ _ _ _ us hl => match us, hl with | [_, _, _, _], _ => rfl)
  have H13 : Has K mg "stretch_of" s_p_stretch_of ["sizes", "first", "many", "gap"] := has_mk (fun_mk (st := s_p_stretch_of) l13 c13 k13) (PySem.W.mg_of X G a13) (fun _ _ _ _ _ _ us hl => match us, hl with | [_, _, _, _], _ => rfl)
  have H14 : Has K mg "_law_cell_at" s_cell_at ["_law_script", "_law_k"] := has_mk (fun_mk (st := s_cell_at) l14 c14 k14) (PySem.W.mg_of X G a14) (fun _ _ _ _ _ _ us hl => match us, hl with | [_, _], _ => rfl)
  have H15 : Has K mg "_law_mixed" s_mixed ["_law_cell", "_law_k"] := has_mk (fun_mk (st := s_mixed) l15 c15 k15) (PySem.W.mg_of X G a15) (fun _ _ _ _ _ _ us hl => match us, hl with | [_, _], _ => rfl)
  have H16 : Has K mg "_law_next" s_next ["_law_source", "_law_many"] := has_mk (fun_mk (st := s_next) l16 c16 k16) (PySem.W.mg_of X G a16) (fun _ _ _ _ _ _ us hl => match us, hl with | [_, _], _ => rfl)
  have H17 : Has K mg "_law_word" s_word ["_law_tracks", "_law_asks", "_law_gap"] := has_mk (fun_mk (st := s_word) l17 c17 k17) (PySem.W.mg_of X G a17) (fun _ _ _ _ _ _ us hl => match us, hl with | [_, _, _], _ => rfl)
  have H18 : Has K mg "_law_bad_track" s_bad_track ["_law_source"] := has_mk (fun_mk (st := s_bad_track) l18 c18 k18) (PySem.W.mg_of X G a18) (fun _ _ _ _ _ _ us hl => match us, hl with | [_], _ => rfl)
  have H19 : Has K mg "_law_bad_ask" s_bad_ask ["_law_source", "_law_count"] := has_mk (fun_mk (st := s_bad_ask) l19 c19 k19) (PySem.W.mg_of X G a19) (fun _ _ _ _ _ _ us hl => match us, hl with | [_, _], _ => rfl)
  have H20 : Has K mg "_law_good" s_good ["_law_cell"] := has_mk (fun_mk (st := s_good) l20 c20 k20) (PySem.W.mg_of X G a20) (fun _ _ _ _ _ _ us hl => match us, hl with | [_], _ => rfl)
  have gC_NoNumber := PySem.W.mg_of X G aC_NoNumber
  have qC_NoNumber := clsA_of gC_NoNumber
  have gC_NoTrack := PySem.W.mg_of X G aC_NoTrack
  have qC_NoTrack := clsA_of gC_NoTrack
  have gC_NoAsk := PySem.W.mg_of X G aC_NoAsk
  have qC_NoAsk := clsA_of gC_NoAsk
  have gC_NestError := PySem.W.mg_of X G aC_NestError
  have qC_NestError := clsA_of gC_NestError
  have T : Txt K mg := ⟨H0, H1, H2, H3, H4, H5, H6, H7, H8, H9, H10, H11, H12, H13, H14, H15, H16, H17, H18, H19, H20, ⟨by rw [qC_NoNumber]; exact gC_NoNumber, by rw [qC_NoNumber]; exact xi_NoNumber, by rw [qC_NoNumber]; exact kk_NoNumber, by rw [qC_NoNumber]; exact bb_NoNumber, by rw [qC_NoNumber]; exact tt_NoNumber, by rw [qC_NoNumber]; exact ⟨hg_NoNumber, hk_NoNumber, bb_NoNumber, hd_NoNumber, ha_NoNumber, hn_NoNumber, ht_NoNumber, hm_NoNumber⟩⟩, ⟨by rw [qC_NoTrack]; exact gC_NoTrack, by rw [qC_NoTrack]; exact xi_NoTrack, by rw [qC_NoTrack]; exact kk_NoTrack, by rw [qC_NoTrack]; exact bb_NoTrack, by rw [qC_NoTrack]; exact tt_NoTrack, by rw [qC_NoTrack]; exact ⟨hg_NoTrack, hk_NoTrack, bb_NoTrack, hd_NoTrack, ha_NoTrack, hn_NoTrack, ht_NoTrack, hm_NoTrack⟩⟩, ⟨by rw [qC_NoAsk]; exact gC_NoAsk, by rw [qC_NoAsk]; exact xi_NoAsk, by rw [qC_NoAsk]; exact kk_NoAsk, by rw [qC_NoAsk]; exact bb_NoAsk, by rw [qC_NoAsk]; exact tt_NoAsk, by rw [qC_NoAsk]; exact ⟨hg_NoAsk, hk_NoAsk, bb_NoAsk, hd_NoAsk, ha_NoAsk, hn_NoAsk, ht_NoAsk, hm_NoAsk⟩⟩, ⟨by rw [qC_NestError]; exact gC_NestError, by rw [qC_NoNumber, qC_NestError]; exact PySem.W.exm_ref bd_NoNumber_NestError dd_NoNumber_NestError td_NoNumber_NestError sd_NoNumber_NestError⟩, ⟨by rw [qC_NestError]; exact gC_NestError, by rw [qC_NoTrack, qC_NestError]; exact PySem.W.exm_ref bd_NoTrack_NestError dd_NoTrack_NestError td_NoTrack_NestError sd_NoTrack_NestError⟩, ⟨by rw [qC_NestError]; exact gC_NestError, by rw [qC_NoAsk, qC_NestError]; exact PySem.W.exm_ref bd_NoAsk_NestError dd_NoAsk_NestError td_NoAsk_NestError sd_NoAsk_NestError⟩, ⟨by rw [qC_NoTrack]; exact gC_NoTrack, by rw [qC_NoNumber, qC_NoTrack]; exact kt_NoNumber_NoTrack⟩, ⟨by rw [qC_NoAsk]; exact gC_NoAsk, by rw [qC_NoNumber, qC_NoAsk]; exact kt_NoNumber_NoAsk⟩, ⟨by rw [qC_NoNumber]; exact gC_NoNumber, by rw [qC_NoNumber]; exact kt_NoNumber_NoNumber⟩, ⟨by rw [qC_NoTrack]; exact gC_NoTrack, by rw [qC_NoTrack]; exact kt_NoTrack_NoTrack⟩, ⟨by rw [qC_NoAsk]; exact gC_NoAsk, by rw [qC_NoTrack, qC_NoAsk]; exact kt_NoTrack_NoAsk⟩, ⟨by rw [qC_NoNumber]; exact gC_NoNumber, by rw [qC_NoTrack, qC_NoNumber]; exact kt_NoTrack_NoNumber⟩, ⟨by rw [qC_NoTrack]; exact gC_NoTrack, by rw [qC_NoAsk, qC_NoTrack]; exact kt_NoAsk_NoTrack⟩, ⟨by rw [qC_NoAsk]; exact gC_NoAsk, by rw [qC_NoAsk]; exact kt_NoAsk_NoAsk⟩, ⟨by rw [qC_NoNumber]; exact gC_NoNumber, by rw [qC_NoAsk, qC_NoNumber]; exact kt_NoAsk_NoNumber⟩, (by rw [qC_NoNumber]; exact kv_NoNumber_ValueError), (by rw [qC_NoTrack]; exact kv_NoTrack_ValueError), (by rw [qC_NoAsk]; exact kv_NoAsk_ValueError), PySem.W.mg_none_of X G z_isinstance, PySem.W.mg_none_of X G z_int, PySem.W.mg_none_of X G z_bool, PySem.W.mg_none_of X G z_sum, PySem.W.mg_none_of X G z_str, PySem.W.mg_none_of X G z_tuple, PySem.W.mg_none_of X G z_len, PySem.W.mg_none_of X G z_all, PySem.W.mg_none_of X G z_list, PySem.W.mg_none_of X G z_sorted, PySem.W.mg_none_of X G z_set, PySem.W.mg_none_of X G z_max, PySem.W.mg_none_of X G z_zip, PySem.W.mg_none_of X G z_range, PySem.W.mg_none_of X G z_ValueError⟩
  refine ⟨_, fun s v => .of_eq rfl, fun base _ _ => law_end (ok_law (fun_mk (st := s_law) l21 c21 k21) T) law_true⟩
end K31
open PySem PySem.W PyProof.Rows
set_option maxRecDepth 100000 in
set_option maxHeartbeats 0 in
theorem PySem.Challenge.cw_nestlaid_k31_what_are_no_tracks_holds : PySem.Challenge.rw_nestlaid_k31_what_are_no_tracks.Holds := by
  w_on; o_law; k_head; (case hw => w_witness2)
  k_fill
  refine L2.walk_of (l := PySem.Challenge.rw_nestlaid_k31_what_are_no_tracks) (n := 63) (k := 10) (x := "_law_script") (CX := fun _ => L2.CX0) (sp := fun w => Dd.spLaw _) rfl (by decide) rfl ⟨rfl, by decide, by decide⟩ (fun w h Y => PySem.W.kIn_of Y) ?F (fun _ _ a ns hl _ hS => ⟨a, ns, rfl, hS, hl, fun _ => rfl⟩) (fun _ _ _ _ _ h => h)
  case F =>
    intro w mg fa h KX G hmg
    refine' K31.all_mk KX G hmg ?a0 ?l0 ?c0 ?k0 ?a1 ?l1 ?c1 ?k1 ?a2 ?l2 ?c2 ?k2 ?a3 ?l3 ?c3 ?k3 ?a4 ?l4 ?c4 ?k4 ?a5 ?l5 ?c5 ?k5 ?a6 ?l6 ?c6 ?k6 ?a7 ?l7 ?c7 ?k7 ?a8 ?l8 ?c8 ?k8 ?a9 ?l9 ?c9 ?k9 ?a10 ?l10 ?c10 ?k10 ?a11 ?l11 ?c11 ?k11 ?a12 ?l12 ?c12 ?k12 ?a13 ?l13 ?c13 ?k13 ?a14 ?l14 ?c14 ?k14 ?a15 ?l15 ?c15 ?k15 ?a16 ?l16 ?c16 ?k16 ?a17 ?l17 ?c17 ?k17 ?a18 ?l18 ?c18 ?k18 ?a19 ?l19 ?c19 ?k19 ?a20 ?l20 ?c20 ?k20 ?a21 ?l21 ?c21 ?k21 ?aC_NoNumber ?aC_NoTrack ?aC_NoAsk ?aC_NestError ?xi_NoNumber ?kk_NoNumber ?bb_NoNumber ?tt_NoNumber ?hg_NoNumber ?hk_NoNumber ?hd_NoNumber ?ha_NoNumber ?hn_NoNumber ?ht_NoNumber ?hm_NoNumber ?xi_NoTrack ?kk_NoTrack ?bb_NoTrack ?tt_NoTrack ?hg_NoTrack ?hk_NoTrack ?hd_NoTrack ?ha_NoTrack ?hn_NoTrack ?ht_NoTrack ?hm_NoTrack ?xi_NoAsk ?kk_NoAsk ?bb_NoAsk ?tt_NoAsk ?hg_NoAsk ?hk_NoAsk ?hd_NoAsk ?ha_NoAsk ?hn_NoAsk ?ht_NoAsk ?hm_NoAsk ?bd_NoNumber_NestError ?dd_NoNumber_NestError ?td_NoNumber_NestError ?sd_NoNumber_NestError ?bd_NoTrack_NestError ?dd_NoTrack_NestError ?td_NoTrack_NestError ?sd_NoTrack_NestError ?bd_NoAsk_NestError ?dd_NoAsk_NestError ?td_NoAsk_NestError ?sd_NoAsk_NestError ?kt_NoNumber_NoTrack ?kt_NoNumber_NoAsk ?kt_NoNumber_NoNumber ?kt_NoTrack_NoTrack ?kt_NoTrack_NoAsk ?kt_NoTrack_NoNumber ?kt_NoAsk_NoTrack ?kt_NoAsk_NoAsk ?kt_NoAsk_NoNumber ?kv_NoNumber_ValueError ?kv_NoTrack_ValueError ?kv_NoAsk_ValueError ?z_isinstance ?z_int ?z_bool ?z_sum ?z_str ?z_tuple ?z_len ?z_all ?z_list ?z_sorted ?z_set ?z_max ?z_zip ?z_range ?z_ValueError
    (case a0 => k_is); (case l0 => k_is); (case c0 => k_is); (case k0 => k_is)
    (case a1 => k_is); (case l1 => k_is); (case c1 => k_is); (case k1 => k_is)
    (case a2 => k_is); (case l2 => k_is); (case c2 => k_is); (case k2 => k_is)
    (case a3 => k_is); (case l3 => k_is); (case c3 => k_is); (case k3 => k_is)
    (case a4 => k_is); (case l4 => k_is); (case c4 => k_is); (case k4 => k_is)
    (case a5 => k_is); (case l5 => k_is); (case c5 => k_is); (case k5 => k_is)
    (case a6 => k_is); (case l6 => k_is); (case c6 => k_is); (case k6 => k_is)
    (case a7 => k_is); (case l7 => k_is); (case c7 => k_is); (case k7 => k_is)
    (case a8 => k_is); (case l8 => k_is); (case c8 => k_is); (case k8 => k_is)
    (case a9 => k_is); (case l9 => k_is); (case c9 => k_is); (case k9 => k_is)
    (case a10 => k_is); (case l10 => k_is); (case c10 => k_is); (case k10 => k_is)
    (case a11 => k_is); (case l11 => k_is); (case c11 => k_is); (case k11 => k_is)
    (case a12 => k_is); (case l12 => k_is); (case c12 => k_is); (case k12 => k_is)
    (case a13 => k_is); (case l13 => k_is); (case c13 => k_is); (case k13 => k_is)
    (case a14 => k_is); (case l14 => k_is); (case c14 => k_is); (case k14 => k_is)
    (case a15 => k_is); (case l15 => k_is); (case c15 => k_is); (case k15 => k_is)
    (case a16 => k_is); (case l16 => k_is); (case c16 => k_is); (case k16 => k_is)
    (case a17 => k_is); (case l17 => k_is); (case c17 => k_is); (case k17 => k_is)
    (case a18 => k_is); (case l18 => k_is); (case c18 => k_is); (case k18 => k_is)
    (case a19 => k_is); (case l19 => k_is); (case c19 => k_is); (case k19 => k_is)
    (case a20 => k_is); (case l20 => k_is); (case c20 => k_is); (case k20 => k_is)
    (case a21 => k_is); (case l21 => k_is); (case c21 => k_is); (case k21 => k_is)
    (case aC_NoNumber => k_is); (case aC_NoTrack => k_is); (case aC_NoAsk => k_is); (case aC_NestError => k_is)
    (case xi_NoNumber => k_exc); (case kk_NoNumber => k_is); (case bb_NoNumber => k_is); (case tt_NoNumber => k_is)
    (case hg_NoNumber => k_is); (case hk_NoNumber => k_is); (case hd_NoNumber => k_is); (case ha_NoNumber => k_is)
    (case hn_NoNumber => k_is); (case ht_NoNumber => k_is); (case hm_NoNumber => k_is); (case xi_NoTrack => k_exc)
    (case kk_NoTrack => k_is); (case bb_NoTrack => k_is); (case tt_NoTrack => k_is); (case hg_NoTrack => k_is)
    (case hk_NoTrack => k_is); (case hd_NoTrack => k_is); (case ha_NoTrack => k_is); (case hn_NoTrack => k_is)
    (case ht_NoTrack => k_is); (case hm_NoTrack => k_is); (case xi_NoAsk => k_exc); (case kk_NoAsk => k_is)
    (case bb_NoAsk => k_is); (case tt_NoAsk => k_is); (case hg_NoAsk => k_is); (case hk_NoAsk => k_is)
    (case hd_NoAsk => k_is); (case ha_NoAsk => k_is); (case hn_NoAsk => k_is); (case ht_NoAsk => k_is)
    (case hm_NoAsk => k_is); (case bd_NoNumber_NestError => k_is); (case dd_NoNumber_NestError => k_is); (case td_NoNumber_NestError => k_is)
    (case sd_NoNumber_NestError => first | rfl | k_is); (case bd_NoTrack_NestError => k_is); (case dd_NoTrack_NestError => k_is); (case td_NoTrack_NestError => k_is)
    (case sd_NoTrack_NestError => first | rfl | k_is); (case bd_NoAsk_NestError => k_is); (case dd_NoAsk_NestError => k_is); (case td_NoAsk_NestError => k_is)
    (case sd_NoAsk_NestError => first | rfl | k_is); (case kt_NoNumber_NoTrack => first | rfl | k_is); (case kt_NoNumber_NoAsk => first | rfl | k_is); (case kt_NoNumber_NoNumber => first | rfl | k_is)
    (case kt_NoTrack_NoTrack => first | rfl | k_is); (case kt_NoTrack_NoAsk => first | rfl | k_is); (case kt_NoTrack_NoNumber => first | rfl | k_is); (case kt_NoAsk_NoTrack => first | rfl | k_is)
    (case kt_NoAsk_NoAsk => first | rfl | k_is); (case kt_NoAsk_NoNumber => first | rfl | k_is); (case kv_NoNumber_ValueError => first | rfl | k_is); (case kv_NoTrack_ValueError => first | rfl | k_is)
    (case kv_NoAsk_ValueError => first | rfl | k_is); (case z_isinstance => k_is); (case z_int => k_is); (case z_bool => k_is)
    (case z_sum => k_is); (case z_str => k_is); (case z_tuple => k_is); (case z_len => k_is)
    (case z_all => k_is); (case z_list => k_is); (case z_sorted => k_is); (case z_set => k_is)
    (case z_max => k_is); (case z_zip => k_is); (case z_range => k_is); (case z_ValueError => k_is)
