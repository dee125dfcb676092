import PyProof.Rows.All
import Wide.All
import OpenK.AllK
import Wide.FinOn
import HandS.ForMost
import HandS.Exc
import HandS.WordsExc
import HandS.Defaults
import HandS.Wide
import HandS.IsInst
import HandS.Flow
import HandS.HeadHook2
import HandS.TupAny
import HandS.Gcd
import HandS.StrMore
import HandS.Text
import HandS.RaiseMore
import HandS.Iter
import HandS.ExcField
import HandS.ExcInit
import HandS.ExcIs
import HandS.SetFor
import KE.KExcIs
import KE.KTryMore
import KE.KStateDown
import HandS.Head0
import HandS.Head1
import HandS.Head2
import HandS.Head3
import HandS.HeadEnd
import HandS.HeadHook1
import PySem.Challenge.RW_lateshares_k01_fractions_of_anything
set_option Elab.async false
set_option linter.all false
set_option maxRecDepth 100000
set_option maxHeartbeats 4000000
namespace Z
open PySem PySem.Spec PyProof.Rows L2

/-! ## data, store, results -/
inductive D where
  | non | bl (b : Bool) | int (i : Int) | str (x : Str)
  | tup (xs : List D) | fl (xs : List D) | emp | ref (n : Nat)

inductive Cell where
  | lst (xs : List D)
  | exc (c : Str) (fs : List (Str × D))
  | ins (c : Str) (fs : List (Str × D))

abbrev Sto := List Cell
abbrev Ev := List (Option D)

inductive Res where
  | ok (d : D) (S : Sto)
  | exc (c : Str) (fs : List (Str × D)) (S : Sto)
  | bad
inductive ResL where
  | ok (ds : List D) (S : Sto)
  | exc (c : Str) (fs : List (Str × D)) (S : Sto)
  | bad
inductive ResB where
  | ok (b : Bool) (S : Sto)
  | exc (c : Str) (fs : List (Str × D)) (S : Sto)
  | bad
inductive SRes where
  | nx (E : Ev) (S : Sto)
  | brk (E : Ev) (S : Sto)
  | cnt (E : Ev) (S : Sto)
  | ret (d : D) (S : Sto)
  | exc (c : Str) (fs : List (Str × D)) (E : Ev) (S : Sto)
  | bad

abbrev FE := Ev → Sto → Res
abbrev FL := Ev → Sto → ResL
abbrev FB := Ev → Sto → ResB
abbrev FS := Ev → Sto → SRes

/-! ## how data stand in the heap -/
/-- a list that nothing writes: the argument's, or one of the written part -/
def SqF (K : PySem.W.Frag) (H : Hp) (a : Addr) (xs : List V) : Prop := (∃ o, H a = some (.frz o (.lst xs))) ∨ SqL K (fun _ => none) a xs
theorem SqF.sq {K : PySem.W.Frag} {H : Hp} {a : Addr} {xs : List V} (h : SqF K H a xs) : SqL K H a xs := by
  rcases h with h | (h | ⟨o, h⟩) | h
  · exact .inl (.inr h)
  · cases h
  · cases h
  · exact .inr h

section
variable (K : PySem.W.Frag) (H : Hp) (m : List Addr)
mutual
inductive RV : D → V → Prop where
  | non : RV .non .non
  | bl (b : Bool) : RV (.bl b) (.bl b)
  | int (i : Int) : RV (.int i) (.int i)
  | str (x : Str) : RV (.str x) (.str x)
  | ref {n : Nat} {a : Addr} : m[n]? = some a → RV (.ref n) (.ref a)
  | tup {a : Addr} {ds : List D} {xs : List V} : SqT K H a xs → RVs ds xs → RV (.tup ds) (.ref a)
  | fl {a : Addr} {ds : List D} {xs : List V} : SqF K H a xs → RVs ds xs → RV (.fl ds) (.ref a)
  | emp {a : Addr} : H a = some (.dK []) → RV .emp (.ref a)
inductive RVs : List D → List V → Prop where
  | nil : RVs [] []
  | cons {d : D} {v : V} {ds : List D} {vs : List V} : RV d v → RVs ds vs → RVs (d :: ds) (v :: vs)
end
end

/-- the later world knows all that the earlier one knew -/
structure Le (K : PySem.W.Frag) (H : Hp) (m : List Addr) (H' : Hp) (m' : List Addr) : Prop where
  m : ∀ (n : Nat) (a : Addr), m[n]? = some a → m'[n]? = some a
  t : ∀ a xs, SqT K H a xs → SqT K H' a xs
  f : ∀ a xs, SqF K H a xs → SqF K H' a xs
  e : ∀ a, H a = some (.dK []) → H' a = some (.dK [])
theorem Le.refl {K H m} : Le K H m H m := ⟨fun _ _ h => h, fun _ _ h => h, fun _ _ h => h, fun _ h => h⟩
theorem Le.trans {K H m H1 m1 H2 m2} (a : Le K H m H1 m1) (b : Le K H1 m1 H2 m2) : Le K H m H2 m2 :=
  ⟨fun n x h => b.m n x (a.m n x h), fun n x h => b.t n x (a.t n x h), fun n x h => b.f n x (a.f n x h), fun x h => b.e x (a.e x h)⟩

mutual
theorem RV.up {K H m H' m'} (l : Le K H m H' m') : ∀ {d : D} {v : V}, RV K H m d v → RV K H' m' d v
  | _, _, .non => .non
  | _, _, .bl b => .bl b
  | _, _, .int b => .int b
  | _, _, .str b => .str b
  | _, _, .ref h => .ref (l.m _ _ h)
  | _, _, .tup h t => .tup (l.t _ _ h) (RVs.up l t)
  | _, _, .fl h t => .fl (l.f _ _ h) (RVs.up l t)
  | _, _, .emp h => .emp (l.e _ h)
theorem RVs.up {K H m H' m'} (l : Le K H m H' m') : ∀ {d : List D} {v : List V}, RVs K H m d v → RVs K H' m' d v
  | _, _, .nil => .nil
  | _, _, .cons h t => .cons (RV.up l h) (RVs.up l t)
end
theorem RVs.len {K H m} : ∀ {ds : List D} {vs : List V}, RVs K H m ds vs → ds.length = vs.length
  | _, _, .nil => rfl
  | _, _, .cons _ t => by simp [RVs.len t]
theorem RVs.app {K H m} : ∀ {ds es : List D} {vs us : List V}, RVs K H m ds vs → RVs K H m es us → RVs K H m (ds ++ es) (vs ++ us)
  | _, _, _, _, .nil, h => h
  | _, _, _, _, .cons r t, h => .cons r (RVs.app t h)
theorem RVs.take {K H m} : ∀ {ds : List D} {vs : List V} (n : Nat), RVs K H m ds vs → RVs K H m (ds.take n) (vs.take n)
  | _, _, 0, _ => .nil
  | _, _, _ + 1, .nil => .nil
  | _, _, n + 1, .cons r t => .cons r (RVs.take n t)
theorem RVs.drop {K H m} : ∀ {ds : List D} {vs : List V} (n : Nat), RVs K H m ds vs → RVs K H m (ds.drop n) (vs.drop n)
  | _, _, 0, r => r
  | _, _, _ + 1, .nil => .nil
  | _, _, n + 1, .cons _ t => RVs.drop n t
theorem RVs.at {K H m} : ∀ {ds : List D} {vs : List V} {i : Nat} {d : D}, RVs K H m ds vs → ds[i]? = some d → ∃ v, vs[i]? = some v ∧ RV K H m d v
  | _, _, i, _, .nil, e => by simp at e
  | _, _, 0, _, .cons r _, e => by simp at e; subst e; exact ⟨_, rfl, r⟩
  | _, _, i + 1, _, .cons _ t, e => by
    obtain ⟨v, h1, h2⟩ := RVs.at (i := i) t (by simpa using e)
    exact ⟨v, by simpa using h1, h2⟩
theorem RVs.at' {K H m} : ∀ {ds : List D} {vs : List V} {i : Nat} {v : V}, RVs K H m ds vs → vs[i]? = some v → ∃ d, ds[i]? = some d ∧ RV K H m d v
  | _, _, i, _, .nil, e => by simp at e
  | _, _, 0, _, .cons r _, e => by simp at e; subst e; exact ⟨_, rfl, r⟩
  | _, _, i + 1, _, .cons _ t, e => by
    obtain ⟨v, h1, h2⟩ := RVs.at' (i := i) t (by simpa using e)
    exact ⟨v, by simpa using h1, h2⟩
theorem RVs.set {K H m} {d : D} {v : V} (r : RV K H m d v) : ∀ {ds : List D} {vs : List V} (i : Nat), RVs K H m ds vs → RVs K H m (ds.set i d) (vs.set i v)
  | _, _, _, .nil => .nil
  | _, _, 0, .cons _ t => .cons r t
  | _, _, i + 1, .cons q t => .cons q (RVs.set r i t)
theorem RVs.rev {K H m} : ∀ {ds : List D} {vs : List V}, RVs K H m ds vs → RVs K H m ds.reverse vs.reverse
  | _, _, .nil => .nil
  | _, _, .cons r t => by simpa using (RVs.rev t).app (.cons r .nil)

/-- fields by name -/
def RFs (K : PySem.W.Frag) (H : Hp) (m : List Addr) : List (Str × D) → List (Str × V) → Prop :=
  Paired fun p q => p.1 = q.1 ∧ RV K H m p.2 q.2
theorem RFs.up {K H m H' m'} (l : Le K H m H' m') {a b} (h : RFs K H m a b) : RFs K H' m' a b := Paired.mapP h fun _ _ z => ⟨z.1, z.2.up l⟩

/-- an exception in the air -/
def RX (K : PySem.W.Frag) (H : Hp) (m : List Addr) (c : Str) (fs : List (Str × D)) (cls : Value) (dd : Option Addr) : Prop :=
  cls = .ref (He.ga K c) ∧ ((fs = [] ∧ dd = none) ∨ ∃ d gs, dd = some d ∧ H d = some (.xd gs) ∧ RFs K H m fs gs)

/-- an exception that a name holds -/
def exv (cls : Value) (dd : Option Addr) (a : Addr) : HO := .ext fun h => ∃ (oe : Obj) (vs : Array Value), h.get? a = some oe ∧ Zc cls dd oe ∧ oe.data = .fields vs

def RC (K : PySem.W.Frag) (H : Hp) (m : List Addr) : Cell → Addr → Prop
  | .lst ds, a => ∃ vs, H a = some (.lst vs) ∧ RVs K H m ds vs
  | .exc c fs, a => ∃ dd, H a = some (exv (.ref (He.ga K c)) dd a) ∧ RX K H m c fs (.ref (He.ga K c)) dd
  | .ins c fs, a => ∃ dx gs, H a = some (.ins (He.ga K c) dx gs) ∧ RFs K H m fs gs

structure RS (K : PySem.W.Frag) (H : Hp) (m : List Addr) (S : Sto) : Prop where
  len : m.length = S.length
  inj : ∀ (i j : Nat) a, m[i]? = some a → m[j]? = some a → i = j
  at_ : ∀ (i : Nat) c, S[i]? = some c → ∃ a, m[i]? = some a ∧ RC K H m c a

structure RE (K : PySem.W.Frag) (H : Hp) (m : List Addr) (E : Ev) (σ : L2.St) : Prop where
  len : E.length = σ.length
  at_ : ∀ (i : Nat) d, E[i]? = some (some d) → ∃ v, σ[i]? = some (some v) ∧ RV K H m d v
theorem RE.up {K H m H' m' E σ} (l : Le K H m H' m') (h : RE K H m E σ) : RE K H' m' E σ :=
  ⟨h.len, fun i d e => let ⟨v, h1, h2⟩ := h.at_ i d e; ⟨v, h1, h2.up l⟩⟩
theorem RE.set {K H m E σ} (h : RE K H m E σ) (i : Nat) {d : D} {v : V} (r : RV K H m d v) : RE K H m (E.set i (some d)) (σ.set i (some v)) := by
  refine ⟨by simp [h.len], fun j e hj => ?_⟩
  by_cases hij : i = j
  · subst hij
    by_cases hl : i < E.length
    · rw [List.getElem?_set_self hl] at hj
      cases hj
      exact ⟨v, by rw [List.getElem?_set_self (h.len ▸ hl)], r⟩
    · rw [List.getElem?_eq_none (by simpa using hl)] at hj
      cases hj
  · rw [List.getElem?_set_ne hij] at hj
    obtain ⟨w, h1, h2⟩ := h.at_ j e hj
    exact ⟨w, by rw [List.getElem?_set_ne hij]; exact h1, h2⟩
theorem RE.unset {K H m E σ} (h : RE K H m E σ) (i : Nat) : RE K H m (E.set i none) (σ.set i none) := by
  refine ⟨by simp [h.len], fun j e hj => ?_⟩
  by_cases hij : i = j
  · subst hij
    by_cases hl : i < E.length
    · rw [List.getElem?_set_self hl] at hj
      cases hj
    · rw [List.getElem?_eq_none (by simpa using hl)] at hj
      cases hj
  · rw [List.getElem?_set_ne hij] at hj
    obtain ⟨w, h1, h2⟩ := h.at_ j e hj
    exact ⟨w, by rw [List.getElem?_set_ne hij]; exact h1, h2⟩

/-! ## the world grows -/
/-- what a store or a new object leaves of tuples and frozen lists -/
theorem Le.put {K H m} {p : Addr} {o : HO} (h1 : ∀ xs, H p ≠ some (.tup xs)) (h2 : ∀ ob u, H p ≠ some (.frz ob u)) (h3 : H p ≠ some (.dK [])) : Le K H m (upd H p o) m := by
  have ne1 : ∀ b xs, H b = some (.tup xs) → b ≠ p := fun b xs e z => by subst z; exact h1 _ e
  have ne2 : ∀ b ob u, H b = some (.frz ob u) → b ≠ p := fun b ob u e z => by subst z; exact h2 _ _ e
  refine ⟨fun _ _ h => h, fun a xs h => ?_, fun a xs h => ?_, fun a h => by
    have na : a ≠ p := fun z => by subst z; exact h3 h
    rw [upd_ne na]; exact h⟩
  · rcases h with (h | ⟨ob, h⟩) | h
    · exact .inl (.inl (by rw [upd_ne (ne1 _ _ h)]; exact h))
    · exact .inl (.inr ⟨ob, by rw [upd_ne (ne2 _ _ _ h)]; exact h⟩)
    · exact .inr h
  · rcases h with ⟨ob, h⟩ | h
    · exact .inl ⟨ob, by rw [upd_ne (ne2 _ _ _ h)]; exact h⟩
    · exact .inr h
theorem Le.new {K H m} {p : Addr} {o : HO} (h : H p = none) : Le K H m (upd H p o) m :=
  Le.put (fun _ e => by rw [h] at e; cases e) (fun _ _ e => by rw [h] at e; cases e) (fun e => by rw [h] at e; cases e)
theorem Le.more {K H m} {p : Addr} : Le K H m H (m ++ [p]) :=
  ⟨fun n a h => by rw [List.getElem?_append_left (List.getElem?_eq_some_iff.mp h).1]; exact h, fun _ _ h => h, fun _ _ h => h, fun _ h => h⟩

theorem RX.up {K H m H' m' c fs cls dd} (l : Le K H m H' m') (k : ∀ d gs, H d = some (.xd gs) → H' d = some (.xd gs)) (h : RX K H m c fs cls dd) : RX K H' m' c fs cls dd := by
  obtain ⟨e, h⟩ := h
  refine ⟨e, ?_⟩
  rcases h with h | ⟨d, gs, h1, h2, h3⟩
  · exact .inl h
  · exact .inr ⟨d, gs, h1, k _ _ h2, h3.up l⟩
/-- a new object that no cell speaks of -/
theorem RS.side {K H m S} {p : Addr} {o : HO} (h : RS K H m S) (hp : H p = none) : RS K (upd H p o) m S := by
  have l : Le K H m (upd H p o) m := Le.new hp
  have ne : ∀ {b : Addr} {u : HO}, H b = some u → upd H p o b = some u := fun {b u} e => by
    rw [upd_ne (ne_of_none e hp)]; exact e
  refine ⟨h.len, h.inj, fun i c e => ?_⟩
  obtain ⟨a, h1, h2⟩ := h.at_ i c e
  refine ⟨a, h1, ?_⟩
  cases c with
  | lst ds => obtain ⟨vs, h3, h4⟩ := h2; exact ⟨vs, ne h3, h4.up l⟩
  | exc c fs => obtain ⟨dd, h3, h4⟩ := h2; exact ⟨dd, ne h3, h4.up l fun _ _ z => ne z⟩
  | ins c fs => obtain ⟨dx, gs, h3, h4⟩ := h2; exact ⟨dx, gs, ne h3, h4.up l⟩
theorem RS.bnd {K H m S} (h : RS K H m S) {i : Nat} {a : Addr} (e : m[i]? = some a) : ∃ u, H a = some u := by
  have hi : i < S.length := by rw [← h.len]; exact (List.getElem?_eq_some_iff.mp e).1
  obtain ⟨b, h1, h2⟩ := h.at_ i S[i] (List.getElem?_eq_getElem hi)
  rw [e] at h1
  cases h1
  generalize S[i] = c at h2
  cases c with
  | lst ds => obtain ⟨vs, h3, h4⟩ := h2; exact ⟨_, h3⟩
  | exc c fs => obtain ⟨dd, h3, h4⟩ := h2; exact ⟨_, h3⟩
  | ins c fs => obtain ⟨dx, gs, h3, h4⟩ := h2; exact ⟨_, h3⟩
/-- a new cell -/
theorem RS.push {K H m S} {p : Addr} {c : Cell} (h : RS K H m S) (hp : ∀ i : Nat, m[i]? ≠ some p) (hc : RC K H (m ++ [p]) c p) : RS K H (m ++ [p]) (S ++ [c]) := by
  have l : Le K H m H (m ++ [p]) := Le.more
  refine ⟨by simp [h.len], fun i j a h1 h2 => ?_, fun i d e => ?_⟩
  · by_cases hi : i < m.length
    · rw [List.getElem?_append_left hi] at h1
      by_cases hj : j < m.length
      · rw [List.getElem?_append_left hj] at h2
        exact h.inj i j a h1 h2
      · rw [List.getElem?_append_right (Nat.le_of_not_lt hj)] at h2
        have : a = p := by
          have := List.mem_of_getElem? h2
          simpa using this
        subst this
        exact absurd h1 (hp i)
    · rw [List.getElem?_append_right (Nat.le_of_not_lt hi)] at h1
      have ha : a = p := by
        have := List.mem_of_getElem? h1
        simpa using this
      subst ha
      by_cases hj : j < m.length
      · rw [List.getElem?_append_left hj] at h2
        exact absurd h2 (hp j)
      · rw [List.getElem?_append_right (Nat.le_of_not_lt hj)] at h2
        have e1 := (List.getElem?_eq_some_iff.mp h1).1
        have e2 := (List.getElem?_eq_some_iff.mp h2).1
        simp at e1 e2
        omega
  · by_cases hi : i < S.length
    · rw [List.getElem?_append_left hi] at e
      obtain ⟨a, h1, h2⟩ := h.at_ i d e
      refine ⟨a, l.m _ _ h1, ?_⟩
      cases d with
      | lst ds => obtain ⟨vs, h3, h4⟩ := h2; exact ⟨vs, h3, h4.up l⟩
      | exc c fs => obtain ⟨dd, h3, h4⟩ := h2; exact ⟨dd, h3, h4.up l fun _ _ z => z⟩
      | ins c fs => obtain ⟨dx, gs, h3, h4⟩ := h2; exact ⟨dx, gs, h3, h4.up l⟩
    · rw [List.getElem?_append_right (Nat.le_of_not_lt hi)] at e
      have e1 := (List.getElem?_eq_some_iff.mp e).1
      have e2 : i = S.length := by simp at e1; omega
      subst e2
      simp at e
      subst e
      exact ⟨p, by rw [← h.len]; simp, hc⟩
theorem RS.newp {K H m S} (h : RS K H m S) {p : Addr} (hp : H p = none) (i : Nat) : m[i]? ≠ some p := fun e => by
  obtain ⟨u, hu⟩ := h.bnd e
  rw [hp] at hu
  cases hu
theorem RS.alloc {K H m S} {p : Addr} {ds : List D} {vs : List V} (h : RS K H m S) (hp : H p = none) (r : RVs K H m ds vs) :
    Le K H m (upd H p (.lst vs)) (m ++ [p]) ∧ RS K (upd H p (.lst vs)) (m ++ [p]) (S ++ [.lst ds]) := by
  have l : Le K H m (upd H p (.lst vs)) (m ++ [p]) := (Le.new hp).trans Le.more
  exact ⟨l, (h.side hp).push (h.newp hp) ⟨vs, upd_same, r.up l⟩⟩
/-- a list is written -/
theorem RS.write {K H m S} {i : Nat} {a : Addr} {ds es : List D} {vs us : List V} (h : RS K H m S) (hi : S[i]? = some (.lst ds)) (ha : m[i]? = some a) (hv : H a = some (.lst vs)) (r : RVs K H m es us) :
    Le K H m (upd H a (.lst us)) m ∧ RS K (upd H a (.lst us)) m (S.set i (.lst es)) := by
  have l : Le K H m (upd H a (.lst us)) m := Le.put (fun _ e => by rw [hv] at e; cases e) (fun _ _ e => by rw [hv] at e; cases e) (fun e => by rw [hv] at e; cases e)
  refine ⟨l, by simpa using h.len, h.inj, fun j c e => ?_⟩
  by_cases hij : i = j
  · subst hij
    rw [List.getElem?_set_self (List.getElem?_eq_some_iff.mp hi).1] at e
    cases e
    exact ⟨a, ha, us, upd_same, r.up l⟩
  · rw [List.getElem?_set_ne hij] at e
    obtain ⟨b, h1, h2⟩ := h.at_ j c e
    have nba : b ≠ a := fun z => hij (h.inj i j a ha (z ▸ h1))
    refine ⟨b, h1, ?_⟩
    have xd : ∀ d gs, H d = some (.xd gs) → upd H a (.lst us) d = some (.xd gs) := fun d gs z => by
      rw [upd_ne (ne_of z hv (by intro q; cases q))]; exact z
    cases c with
    | lst ds => obtain ⟨vs, h3, h4⟩ := h2; exact ⟨vs, by rw [upd_ne nba]; exact h3, h4.up l⟩
    | exc c fs => obtain ⟨dd, h3, h4⟩ := h2; exact ⟨dd, by rw [upd_ne nba]; exact h3, h4.up l xd⟩
    | ins c fs => obtain ⟨dx, gs, h3, h4⟩ := h2; exact ⟨dx, gs, by rw [upd_ne nba]; exact h3, h4.up l⟩
/-- the list at a reference -/
theorem RS.list {K H m S} {n : Nat} {ds : List D} {v : V} (h : RS K H m S) (e : S[n]? = some (.lst ds)) (r : RV K H m (.ref n) v) :
    ∃ a vs, v = .ref a ∧ m[n]? = some a ∧ H a = some (.lst vs) ∧ RVs K H m ds vs := by
  cases r with
  | ref hm =>
    obtain ⟨a, h1, vs, h2, h3⟩ := h.at_ n _ e
    rw [hm] at h1
    cases h1
    exact ⟨_, vs, rfl, hm, h2, h3⟩
end Z
namespace Z
open PySem PySem.Spec PyProof.Rows L2

/-! ## what is wanted behind a result -/
def PV (K : PySem.W.Frag) (W : WX) (H : Hp) (m : List Addr) (σ : L2.St) (r : Res) (Q : VK) : Prop :=
  match r with
  | .ok d S => ∀ H' m' v, Le K H m H' m' → RS K H' m' S → RV K H' m' d v → Q v H'
  | .exc c fs S => ∀ H' m' cls dd, Le K H m H' m' → RS K H' m' S → RX K H' m' c fs cls dd → W cls dd σ H'
  | .bad => False
def PL (K : PySem.W.Frag) (W : WX) (H : Hp) (m : List Addr) (σ : L2.St) (r : ResL) (Q : List V → Hp → Prop) : Prop :=
  match r with
  | .ok ds S => ∀ H' m' vs, Le K H m H' m' → RS K H' m' S → RVs K H' m' ds vs → Q vs H'
  | .exc c fs S => ∀ H' m' cls dd, Le K H m H' m' → RS K H' m' S → RX K H' m' c fs cls dd → W cls dd σ H'
  | .bad => False
def PB (K : PySem.W.Frag) (W : WX) (H : Hp) (m : List Addr) (σ : L2.St) (r : ResB) (Q : Bool → Hp → Prop) : Prop :=
  match r with
  | .ok b S => ∀ H' m', Le K H m H' m' → RS K H' m' S → Q b H'
  | .exc c fs S => ∀ H' m' cls dd, Le K H m H' m' → RS K H' m' S → RX K H' m' c fs cls dd → W cls dd σ H'
  | .bad => False
section
variable {K : PySem.W.Frag} {W : WX} {H H1 : Hp} {m m1 : List Addr} {σ : L2.St}
theorem PV.re {r : Res} {Q : VK} (l : Le K H m H1 m1) (h : PV K W H m σ r Q) : PV K W H1 m1 σ r Q := by
  cases r with
  | ok d S => exact fun H' m' v l' => h H' m' v (l.trans l')
  | exc c fs S => exact fun H' m' c d l' => h H' m' c d (l.trans l')
  | bad => exact h
theorem PL.re {r : ResL} {Q : List V → Hp → Prop} (l : Le K H m H1 m1) (h : PL K W H m σ r Q) : PL K W H1 m1 σ r Q := by
  cases r with
  | ok d S => exact fun H' m' v l' => h H' m' v (l.trans l')
  | exc c fs S => exact fun H' m' c d l' => h H' m' c d (l.trans l')
  | bad => exact h
theorem PB.re {r : ResB} {Q : Bool → Hp → Prop} (l : Le K H m H1 m1) (h : PB K W H m σ r Q) : PB K W H1 m1 σ r Q := by
  cases r with
  | ok d S => exact fun H' m' l' => h H' m' (l.trans l')
  | exc c fs S => exact fun H' m' c d l' => h H' m' c d (l.trans l')
  | bad => exact h
end
/-- an expression's, an argument list's, a test's reading by its function -/
def tE (K : PySem.W.Frag) (W : WX) (f : FE) : L2.TE := fun σ H Q => ∃ m E S, RE K H m E σ ∧ RS K H m S ∧ PV K W H m σ (f E S) Q
def tL (K : PySem.W.Frag) (W : WX) (f : FL) : TA := fun σ H Q => ∃ m E S, RE K H m E σ ∧ RS K H m S ∧ PL K W H m σ (f E S) Q
def tT (K : PySem.W.Frag) (W : WX) (f : FB) : TT := fun σ H Q => ∃ m E S, RE K H m E σ ∧ RS K H m S ∧ PB K W H m σ (f E S) Q

/-! ## sequences -/
def Res.bind (r : Res) (k : D → Sto → Res) : Res := match r with
  | .ok d S => k d S
  | .exc c fs S => .exc c fs S
  | .bad => .bad
def Res.bindL (r : Res) (k : D → Sto → ResL) : ResL := match r with
  | .ok d S => k d S
  | .exc c fs S => .exc c fs S
  | .bad => .bad
def Res.bindB (r : Res) (k : D → Sto → ResB) : ResB := match r with
  | .ok d S => k d S
  | .exc c fs S => .exc c fs S
  | .bad => .bad
def ResL.bind (r : ResL) (k : List D → Sto → Res) : Res := match r with
  | .ok d S => k d S
  | .exc c fs S => .exc c fs S
  | .bad => .bad
def ResL.bindL (r : ResL) (k : List D → Sto → ResL) : ResL := match r with
  | .ok d S => k d S
  | .exc c fs S => .exc c fs S
  | .bad => .bad
def ResB.bind (r : ResB) (k : Bool → Sto → Res) : Res := match r with
  | .ok d S => k d S
  | .exc c fs S => .exc c fs S
  | .bad => .bad
def ResB.bindB (r : ResB) (k : Bool → Sto → ResB) : ResB := match r with
  | .ok d S => k d S
  | .exc c fs S => .exc c fs S
  | .bad => .bad
@[simp] theorem Res.bind_ok {d S} {k : D → Sto → Res} : (Res.ok d S).bind k = k d S := rfl
@[simp] theorem Res.bind_exc {c fs S} {k : D → Sto → Res} : (Res.exc c fs S).bind k = .exc c fs S := rfl
@[simp] theorem Res.bind_bad {k : D → Sto → Res} : Res.bad.bind k = .bad := rfl
@[simp] theorem Res.bindL_ok {d S} {k : D → Sto → ResL} : (Res.ok d S).bindL k = k d S := rfl
@[simp] theorem Res.bindL_exc {c fs S} {k : D → Sto → ResL} : (Res.exc c fs S).bindL k = .exc c fs S := rfl
@[simp] theorem Res.bindL_bad {k : D → Sto → ResL} : Res.bad.bindL k = .bad := rfl
@[simp] theorem Res.bindB_ok {d S} {k : D → Sto → ResB} : (Res.ok d S).bindB k = k d S := rfl
@[simp] theorem Res.bindB_exc {c fs S} {k : D → Sto → ResB} : (Res.exc c fs S).bindB k = .exc c fs S := rfl
@[simp] theorem Res.bindB_bad {k : D → Sto → ResB} : Res.bad.bindB k = .bad := rfl
@[simp] theorem ResL.bind_ok {d S} {k : List D → Sto → Res} : (ResL.ok d S).bind k = k d S := rfl
@[simp] theorem ResL.bind_exc {c fs S} {k : List D → Sto → Res} : (ResL.exc c fs S).bind k = .exc c fs S := rfl
@[simp] theorem ResL.bind_bad {k : List D → Sto → Res} : ResL.bad.bind k = .bad := rfl
@[simp] theorem ResL.bindL_ok {d S} {k : List D → Sto → ResL} : (ResL.ok d S).bindL k = k d S := rfl
@[simp] theorem ResL.bindL_exc {c fs S} {k : List D → Sto → ResL} : (ResL.exc c fs S).bindL k = .exc c fs S := rfl
@[simp] theorem ResL.bindL_bad {k : List D → Sto → ResL} : ResL.bad.bindL k = .bad := rfl
@[simp] theorem ResB.bind_ok {d S} {k : Bool → Sto → Res} : (ResB.ok d S).bind k = k d S := rfl
@[simp] theorem ResB.bind_exc {c fs S} {k : Bool → Sto → Res} : (ResB.exc c fs S).bind k = .exc c fs S := rfl
@[simp] theorem ResB.bind_bad {k : Bool → Sto → Res} : ResB.bad.bind k = .bad := rfl
@[simp] theorem ResB.bindB_ok {d S} {k : Bool → Sto → ResB} : (ResB.ok d S).bindB k = k d S := rfl
@[simp] theorem ResB.bindB_exc {c fs S} {k : Bool → Sto → ResB} : (ResB.exc c fs S).bindB k = .exc c fs S := rfl
@[simp] theorem ResB.bindB_bad {k : Bool → Sto → ResB} : ResB.bad.bindB k = .bad := rfl

section
variable {K : PySem.W.Frag} {W : WX} {σ : L2.St} {H : Hp}
/-- first f, then what hangs on its value -/
theorem tE.then {f : FE} {k : Ev → D → Sto → Res} {Q : VK} (h : tE K W (fun E S => (f E S).bind (k E)) σ H Q) :
    tE K W f σ H fun v H1 => ∃ m E S d, RE K H1 m E σ ∧ RS K H1 m S ∧ RV K H1 m d v ∧ PV K W H1 m σ (k E d S) Q := by
  obtain ⟨m, E, S, re, rs, p⟩ := h
  try dsimp only at p
  refine ⟨m, E, S, re, rs, ?_⟩
  cases e : f E S with
  | ok d S1 => rw [e] at p; exact fun H1 m1 v l rs1 rv => ⟨m1, E, S1, d, re.up l, rs1, rv, PV.re l p⟩
  | exc c fs S1 => rw [e] at p; exact p
  | bad => rw [e] at p; exact p
theorem tE.thenL {f : FE} {k : Ev → D → Sto → ResL} {Q : List V → Hp → Prop} (h : tL K W (fun E S => (f E S).bindL (k E)) σ H Q) :
    tE K W f σ H fun v H1 => ∃ m E S d, RE K H1 m E σ ∧ RS K H1 m S ∧ RV K H1 m d v ∧ PL K W H1 m σ (k E d S) Q := by
  obtain ⟨m, E, S, re, rs, p⟩ := h
  try dsimp only at p
  refine ⟨m, E, S, re, rs, ?_⟩
  cases e : f E S with
  | ok d S1 => rw [e] at p; exact fun H1 m1 v l rs1 rv => ⟨m1, E, S1, d, re.up l, rs1, rv, PL.re l p⟩
  | exc c fs S1 => rw [e] at p; exact p
  | bad => rw [e] at p; exact p
theorem tE.thenB {f : FE} {k : Ev → D → Sto → ResB} {Q : Bool → Hp → Prop} (h : tT K W (fun E S => (f E S).bindB (k E)) σ H Q) :
    tE K W f σ H fun v H1 => ∃ m E S d, RE K H1 m E σ ∧ RS K H1 m S ∧ RV K H1 m d v ∧ PB K W H1 m σ (k E d S) Q := by
  obtain ⟨m, E, S, re, rs, p⟩ := h
  try dsimp only at p
  refine ⟨m, E, S, re, rs, ?_⟩
  cases e : f E S with
  | ok d S1 => rw [e] at p; exact fun H1 m1 v l rs1 rv => ⟨m1, E, S1, d, re.up l, rs1, rv, PB.re l p⟩
  | exc c fs S1 => rw [e] at p; exact p
  | bad => rw [e] at p; exact p
theorem tL.then {f : FL} {k : Ev → List D → Sto → Res} {Q : VK} (h : tE K W (fun E S => (f E S).bind (k E)) σ H Q) :
    tL K W f σ H fun vs H1 => ∃ m E S ds, RE K H1 m E σ ∧ RS K H1 m S ∧ RVs K H1 m ds vs ∧ PV K W H1 m σ (k E ds S) Q := by
  obtain ⟨m, E, S, re, rs, p⟩ := h
  try dsimp only at p
  refine ⟨m, E, S, re, rs, ?_⟩
  cases e : f E S with
  | ok d S1 => rw [e] at p; exact fun H1 m1 v l rs1 rv => ⟨m1, E, S1, d, re.up l, rs1, rv, PV.re l p⟩
  | exc c fs S1 => rw [e] at p; exact p
  | bad => rw [e] at p; exact p
theorem tL.thenL {f : FL} {k : Ev → List D → Sto → ResL} {Q : List V → Hp → Prop} (h : tL K W (fun E S => (f E S).bindL (k E)) σ H Q) :
    tL K W f σ H fun vs H1 => ∃ m E S ds, RE K H1 m E σ ∧ RS K H1 m S ∧ RVs K H1 m ds vs ∧ PL K W H1 m σ (k E ds S) Q := by
  obtain ⟨m, E, S, re, rs, p⟩ := h
  try dsimp only at p
  refine ⟨m, E, S, re, rs, ?_⟩
  cases e : f E S with
  | ok d S1 => rw [e] at p; exact fun H1 m1 v l rs1 rv => ⟨m1, E, S1, d, re.up l, rs1, rv, PL.re l p⟩
  | exc c fs S1 => rw [e] at p; exact p
  | bad => rw [e] at p; exact p
theorem tT.then {f : FB} {k : Ev → Bool → Sto → Res} {Q : VK} (h : tE K W (fun E S => (f E S).bind (k E)) σ H Q) :
    tT K W f σ H fun b H1 => ∃ m E S, RE K H1 m E σ ∧ RS K H1 m S ∧ PV K W H1 m σ (k E b S) Q := by
  obtain ⟨m, E, S, re, rs, p⟩ := h
  try dsimp only at p
  refine ⟨m, E, S, re, rs, ?_⟩
  cases e : f E S with
  | ok d S1 => rw [e] at p; exact fun H1 m1 l rs1 => ⟨m1, E, S1, re.up l, rs1, PV.re l p⟩
  | exc c fs S1 => rw [e] at p; exact p
  | bad => rw [e] at p; exact p
theorem tT.thenB {f : FB} {k : Ev → Bool → Sto → ResB} {Q : Bool → Hp → Prop} (h : tT K W (fun E S => (f E S).bindB (k E)) σ H Q) :
    tT K W f σ H fun b H1 => ∃ m E S, RE K H1 m E σ ∧ RS K H1 m S ∧ PB K W H1 m σ (k E b S) Q := by
  obtain ⟨m, E, S, re, rs, p⟩ := h
  try dsimp only at p
  refine ⟨m, E, S, re, rs, ?_⟩
  cases e : f E S with
  | ok d S1 => rw [e] at p; exact fun H1 m1 l rs1 => ⟨m1, E, S1, re.up l, rs1, PB.re l p⟩
  | exc c fs S1 => rw [e] at p; exact p
  | bad => rw [e] at p; exact p
theorem tE.mono {f : FE} {Q Q' : VK} (h : tE K W f σ H Q) (hQ : ∀ v H', Q v H' → Q' v H') : tE K W f σ H Q' := by
  obtain ⟨m, E, S, re, rs, p⟩ := h
  try dsimp only at p
  refine ⟨m, E, S, re, rs, ?_⟩
  cases e : f E S with
  | ok d S1 => rw [e] at p; exact fun H1 m1 v l rs1 rv => hQ _ _ (p H1 m1 v l rs1 rv)
  | exc c fs S1 => rw [e] at p; exact p
  | bad => rw [e] at p; exact p
theorem tL.mono {f : FL} {Q Q' : List V → Hp → Prop} (h : tL K W f σ H Q) (hQ : ∀ v H', Q v H' → Q' v H') : tL K W f σ H Q' := by
  obtain ⟨m, E, S, re, rs, p⟩ := h
  try dsimp only at p
  refine ⟨m, E, S, re, rs, ?_⟩
  cases e : f E S with
  | ok d S1 => rw [e] at p; exact fun H1 m1 v l rs1 rv => hQ _ _ (p H1 m1 v l rs1 rv)
  | exc c fs S1 => rw [e] at p; exact p
  | bad => rw [e] at p; exact p
theorem tT.mono {f : FB} {Q Q' : Bool → Hp → Prop} (h : tT K W f σ H Q) (hQ : ∀ v H', Q v H' → Q' v H') : tT K W f σ H Q' := by
  obtain ⟨m, E, S, re, rs, p⟩ := h
  try dsimp only at p
  refine ⟨m, E, S, re, rs, ?_⟩
  cases e : f E S with
  | ok d S1 => rw [e] at p; exact fun H1 m1 l rs1 => hQ _ _ (p H1 m1 l rs1)
  | exc c fs S1 => rw [e] at p; exact p
  | bad => rw [e] at p; exact p
/-- two in a row -/
theorem tE.two {f g : FE} {k : D → D → Sto → Res} {Q : VK} (h : tE K W (fun E S => (f E S).bind fun x S1 => (g E S1).bind fun y S2 => k x y S2) σ H Q) :
    tE K W f σ H fun v H1 => tE K W g σ H1 fun u H2 => ∃ m S x y, RS K H2 m S ∧ RV K H2 m x v ∧ RV K H2 m y u ∧ PV K W H2 m σ (k x y S) Q := by
  refine (tE.then (k := fun E x S1 => (g E S1).bind fun y S2 => k x y S2) h).mono fun v H1 ⟨m, E, S, d, re, rs, rv, p⟩ => ?_
  try dsimp only at p
  refine ⟨m, E, S, re, rs, ?_⟩
  cases e : g E S with
  | ok d2 S1 => rw [e] at p; exact fun H2 m2 u l rs2 ru => ⟨m2, S1, d, d2, rs2, rv.up l, ru, PV.re l p⟩
  | exc c fs S1 => rw [e] at p; exact p
  | bad => rw [e] at p; exact p
theorem tE.twoB {f g : FE} {k : D → D → Sto → ResB} {Q : Bool → Hp → Prop} (h : tT K W (fun E S => (f E S).bindB fun x S1 => (g E S1).bindB fun y S2 => k x y S2) σ H Q) :
    tE K W f σ H fun v H1 => tE K W g σ H1 fun u H2 => ∃ m S x y, RS K H2 m S ∧ RV K H2 m x v ∧ RV K H2 m y u ∧ PB K W H2 m σ (k x y S) Q := by
  refine (tE.thenB (k := fun E x S1 => (g E S1).bindB fun y S2 => k x y S2) h).mono fun v H1 ⟨m, E, S, d, re, rs, rv, p⟩ => ?_
  try dsimp only at p
  refine ⟨m, E, S, re, rs, ?_⟩
  cases e : g E S with
  | ok d2 S1 => rw [e] at p; exact fun H2 m2 u l rs2 ru => ⟨m2, S1, d, d2, rs2, rv.up l, ru, PB.re l p⟩
  | exc c fs S1 => rw [e] at p; exact p
  | bad => rw [e] at p; exact p
end

/-! ## operations by values -/
/-- a two-place operation, by data -/
def O2 (X : Cx) (f : Value → Value → Sem Value) (g : D → D → Sto → Res) : Prop :=
  ∀ (W : WX) (pins : List (Addr × Obj)) (s : Shared) (σ : L2.St) (H : Hp) (m : List Addr) (S : Sto) (d e : D) (x y : V) (v u : Value) (Q : VK), Inv X pins σ H s → RS X.K H m S → RV X.K H m d x → RV X.K H m e y → RelV x v → RelV y u →
    PV X.K W H m σ (g d e S) Q → wpAny (model X.prog X.w) X.A (f v u) (EP X pins σ Q) X.xe s
def O1 (X : Cx) (f : Value → Sem Value) (g : D → Sto → Res) : Prop :=
  ∀ (W : WX) (pins : List (Addr × Obj)) (s : Shared) (σ : L2.St) (H : Hp) (m : List Addr) (S : Sto) (d : D) (x : V) (v : Value) (Q : VK), Inv X pins σ H s → RS X.K H m S → RV X.K H m d x → RelV x v →
    PV X.K W H m σ (g d S) Q → wpAny (model X.prog X.w) X.A (f v) (EP X pins σ Q) X.xe s
/-- a call of a builtin with values -/
def OC (X : Cx) (f : Value) (g : List D → Sto → Res) : Prop :=
  ∀ (W : WX) (pins : List (Addr × Obj)) (s : Shared) (σ : L2.St) (H : Hp) (m : List Addr) (S : Sto) (ds : List D) (xs : List V) (us : List Value) (Q : VK), Inv X pins σ H s → RS X.K H m S → RVs X.K H m ds xs → Vals xs us →
    PV X.K W H m σ (g ds S) Q → wpAny (model X.prog X.w) X.A (call f us) (EP X pins σ Q) X.xe s
/-- a builtin's method: the receiver's type is T -/
def OM (X : Cx) (T : String) (id : String) (g : D → List D → Sto → Res) : Prop :=
  ∀ (W : WX) (pins : List (Addr × Obj)) (s : Shared) (σ : L2.St) (H : Hp) (m : List Addr) (S : Sto) (d : D) (ds : List D) (x : V) (xs : List V) (v : Value) (us : List Value) (Q : VK), Inv X pins σ H s → RS X.K H m S → RV X.K H m d x → RVs X.K H m ds xs → RelV x v → Vals xs us →
    PV X.K W H m σ (g d ds S) Q → wpAny (model X.prog X.w) X.A (call (.builtin id) (v :: us)) (EP X pins σ Q) X.xe s

/-! ## expressions -/
def vV (i : Nat) : FE := fun E S => match E[i]? with
  | some (some d) => .ok d S
  | _ => .bad
def vC (d : D) : FE := fun _ S => .ok d S
def vBin (g : D → D → Sto → Res) (f1 f2 : FE) : FE := fun E S => (f1 E S).bind fun x S1 => (f2 E S1).bind fun y S2 => g x y S2
def vUn (g : D → Sto → Res) (f1 : FE) : FE := fun E S => (f1 E S).bind fun x S1 => g x S1
def lNil : FL := fun _ S => .ok [] S
def lCons (f : FE) (l : FL) : FL := fun E S => (f E S).bindL fun x S1 => (l E S1).bindL fun xs S2 => .ok (x :: xs) S2
def vTup (l : FL) : FE := fun E S => (l E S).bind fun xs S1 => if xs.length ≤ 1000 then .ok (.tup xs) S1 else .bad
def vLst (l : FL) : FE := fun E S => (l E S).bind fun xs S1 => if xs.length ≤ 1000 then .ok (.ref S1.length) (S1 ++ [.lst xs]) else .bad
def vEmp : FE := fun _ S => .ok .emp S
def vIf (t : FB) (f1 f2 : FE) : FE := fun E S => (t E S).bind fun b S1 => if b then f1 E S1 else f2 E S1
def vCall (g : List D → Sto → Res) (l : FL) : FE := fun E S => (l E S).bind g
def vMet (g : D → List D → Sto → Res) (f : FE) (l : FL) : FE := fun E S => (f E S).bind fun x S1 => (l E S1).bind fun xs S2 => g x xs S2
/-- truth -/
def truth (d : D) (S : Sto) : Option Bool := match d with
  | .non => some false
  | .bl b => some b
  | .int i => some (i != 0)
  | .str x => if x.length ≤ sizeLine then some ((x.length : Int) != 0) else none
  | .tup xs => some (!xs.isEmpty)
  | .fl xs => some (!xs.isEmpty)
  | .emp => some false
  | .ref n => match S[n]? with
    | some (.lst xs) => some (!xs.isEmpty)
    | _ => none
def bOf (f : FE) : FB := fun E S => (f E S).bindB fun d S1 => match truth d S1 with
  | some b => .ok b S1
  | none => .bad
def bAnd (f g : FB) : FB := fun E S => (f E S).bindB fun b S1 => if b then g E S1 else .ok false S1
def bOr (f g : FB) : FB := fun E S => (f E S).bindB fun b S1 => if b then .ok true S1 else g E S1
def bNot (f : FB) : FB := fun E S => (f E S).bindB fun b S1 => .ok (!b) S1
/-- a comparison as a test -/
def bCmp (g : D → D → Sto → Res) (f1 f2 : FE) : FB := fun E S => (f1 E S).bindB fun x S1 => (f2 E S1).bindB fun y S2 => (g x y S2).bindB fun z S3 => match z with
  | .bl b => .ok b S3
  | _ => .bad
/-- and, or, not as values -/
def vAnd (f g : FE) : FE := fun E S => (f E S).bind fun d S1 => match truth d S1 with
  | some b => if b then g E S1 else .ok d S1
  | none => .bad
def vOr (f g : FE) : FE := fun E S => (f E S).bind fun d S1 => match truth d S1 with
  | some b => if b then .ok d S1 else g E S1
  | none => .bad
def vNot (f : FE) : FE := fun E S => (f E S).bind fun d S1 => match truth d S1 with
  | some b => .ok (.bl (!b)) S1
  | none => .bad

section
variable {X : Cx} {W : WX} {pos : Pos}
theorem ok_here {K : PySem.W.Frag} {H : Hp} {m : List Addr} {σ : L2.St} {d : D} {S : Sto} {v : V} {Q : VK} (rs : RS K H m S) (rv : RV K H m d v) (p : PV K W H m σ (.ok d S) Q) : Q v H := p H m v Le.refl rs rv
theorem RV.len_str {K H m x v} (h : RV K H m (.str x) v) : v = .str x := by cases h; rfl

theorem e_var {i : Nat} {x : Str} (hN : X.N[i]? = some x) (hv : Vis X.env.scope x) (hd : (x == ("__debug__" : Str)) = false := by decide) (hcd : (x == ("__classdict__" : Str)) = false := by decide) : PE X (.Name x pos) (tE X.K W (vV i)) := by
  refine ⟨fun pins s σ H Q I h => (pe_var hN hv hd hcd).run pins s σ H Q I ?_⟩
  obtain ⟨m, E, S, re, rs, p⟩ := h
  unfold vV at p
  cases e : E[i]? with
  | none => rw [e] at p; exact p.elim
  | some o =>
    cases o with
    | none => rw [e] at p; exact p.elim
    | some d =>
      rw [e] at p
      obtain ⟨v, h1, h2⟩ := re.at_ i d e
      exact ⟨v, h1, p H m v Le.refl rs h2⟩
theorem e_c {e : Expr} {d : D} {v : V} (h : PE X e (tC v)) (r : ∀ H m, RV X.K H m d v) : PE X e (tE X.K W (vC d)) :=
  ⟨fun pins s σ H Q I ⟨m, E, S, re, rs, p⟩ => h.run pins s σ H Q I (p H m v Le.refl rs (r H m))⟩
theorem e_int {i j} : PE X (.Constant (.int i) j pos) (tE X.K W (vC (.int i))) := e_c pe_int fun _ _ => .int _
theorem e_bl {i j} : PE X (.Constant (.bool i) j pos) (tE X.K W (vC (.bl i))) := e_c pe_bl fun _ _ => .bl _
theorem e_non {j} : PE X (.Constant .none j pos) (tE X.K W (vC .non)) := e_c pe_non fun _ _ => .non
theorem e_str {i j} : PE X (.Constant (.str i) j pos) (tE X.K W (vC (.str i))) := e_c pe_str fun _ _ => .str _
theorem e_bin {op : Operator} {a b : Expr} {f1 f2 : FE} {g} (ho : O2 X (binaryOp op) g) (ha : PE X a (tE X.K W f1)) (hb : PE X b (tE X.K W f2)) : PE X (.BinOp a op b pos) (tE X.K W (vBin g f1 f2)) := by
  refine ⟨fun pins s σ H Q I h => ?_⟩
  refine wpAny_BinOp (binT ha hb I (tE.two h) fun v u s2 x y H2 I2 rx ry ⟨m, S, d, e, rs, rd, re, p⟩ => ?_)
  exact ho W pins s2 σ H2 m S d e x y v u Q I2 rs rd re rx ry p
theorem e_cmp {op : CmpOp} {a b : Expr} {f1 f2 : FE} {g} (ho : O2 X (compareOp op) g) (hm : behindInMarks op b = false) (ha : PE X a (tE X.K W f1)) (hb : PE X b (tE X.K W f2)) : PE X (.Compare a [op] [b] pos) (tE X.K W (vBin g f1 f2)) := by
  refine ⟨fun pins s σ H Q I h => ?_⟩
  refine wpAny_Compare1 (binT ha hb I (tE.two h) fun v u s2 x y H2 I2 rx ry ⟨m, S, d, e, rs, rd, re, p⟩ => ?_) hm
  exact ho W pins s2 σ H2 m S d e x y v u Q I2 rs rd re rx ry p
theorem e_un {op : UnaryOp} {a : Expr} {f1 : FE} {g} (ho : O1 X (unaryOp op) g) (ha : PE X a (tE X.K W f1)) : PE X (.UnaryOp op a pos) (tE X.K W (vUn g f1)) := by
  refine ⟨fun pins s σ H Q I h => ?_⟩
  refine UnaryOp_ (thn (ha.run pins s σ H _ I (tE.then (k := fun _ x S1 => g x S1) h)) fun v s1 ⟨x, H1, I1, r1, m, E, S, d, re, rs, rd, p⟩ => ?_)
  exact ho W pins s1 σ H1 m S d x v Q I1 rs rd r1 p
theorem a_nil : PA X [] (tL X.K W lNil) := ⟨fun pos pins s σ H Q I ⟨m, E, S, re, rs, p⟩ => pa_nil.run pos pins s σ H Q I (p H m [] Le.refl rs .nil)⟩
theorem a_cons {e : Expr} {es : List Expr} {f : FE} {l : FL} (ha : PE X e (tE X.K W f)) (hr : PA X es (tL X.K W l)) (hs : starEach (e :: es) X.env = (false, eval e X.env) :: starEach es X.env := by rfl) : PA X (e :: es) (tL X.K W (lCons f l)) := by
  refine ⟨fun pos pins s σ H Q I h => (pa_cons ha hr hs).run pos pins s σ H Q I ?_⟩
  refine (tE.thenL (k := fun E x S1 => (l E S1).bindL fun xs S2 => .ok (x :: xs) S2) h).mono fun v H1 ⟨m, E, S, d, re, rs, rv, p⟩ => ?_
  try dsimp only at p
  refine ⟨m, E, S, re, rs, ?_⟩
  cases e : l E S with
  | ok d2 S1 => rw [e] at p; exact fun H2 m2 u l rs2 ru => p H2 m2 (v :: u) l rs2 (.cons (rv.up l) ru)
  | exc c fs S1 => rw [e] at p; exact p
  | bad => rw [e] at p; exact p
theorem k_nil : PK X [] (tL X.K W lNil) := ⟨fun pos pins s σ H Q I ⟨m, E, S, re, rs, p⟩ => pk_nil.run pos pins s σ H Q I (p H m [] Le.refl rs .nil)⟩
theorem k_cons {e : Expr} {kws : List Keyword} {nm : Option Str} {kpos : Pos} {f : FE} {l : FL} (ha : PE X e (tE X.K W f)) (hr : PK X kws (tL X.K W l)) : PK X (⟨nm, e, kpos⟩ :: kws) (tL X.K W (lCons f l)) := by
  refine ⟨fun pos pins s σ H Q I h => (pk_cons ha hr).run pos pins s σ H Q I ?_⟩
  refine (tE.thenL (k := fun E x S1 => (l E S1).bindL fun xs S2 => .ok (x :: xs) S2) h).mono fun v H1 ⟨m, E, S, d, re, rs, rv, p⟩ => ?_
  try dsimp only at p
  refine ⟨m, E, S, re, rs, ?_⟩
  cases e : l E S with
  | ok d2 S1 => rw [e] at p; exact fun H2 m2 u l rs2 ru => p H2 m2 (v :: u) l rs2 (.cons (rv.up l) ru)
  | exc c fs S1 => rw [e] at p; exact p
  | bad => rw [e] at p; exact p
theorem le1000 {n : Nat} (h : n ≤ 1000) : n ≤ sizeLine := Nat.le_trans h (by decide)
theorem e_tup {es : List Expr} {l : FL} {x1} (h : PA X es (tL X.K W l)) : PE X (.Tuple es x1 pos) (tE X.K W (vTup l)) := by
  refine ⟨fun pins s σ H Q I hq => (pe_tup h).run pins s σ H Q I ?_⟩
  refine (tL.then (k := fun _ xs S1 => if xs.length ≤ 1000 then .ok (.tup xs) S1 else .bad) hq).mono fun vs H1 ⟨m, E, S, ds, re, rs, rv, p⟩ => ?_
  try dsimp only at p
  by_cases hz : ds.length ≤ 1000
  · rw [if_pos hz] at p
    refine ⟨by rw [← rv.len]; exact le1000 hz, fun q hq => ?_⟩
    have l1 : Le X.K H1 m (upd H1 q (.tup vs)) m := Le.new hq
    exact p _ m _ l1 (rs.side hq) (.tup (SqT.of upd_same) (rv.up l1))
  · rw [if_neg hz] at p; exact p.elim
theorem e_lst {es : List Expr} {l : FL} (h : PA X es (tL X.K W l)) : PE X (.List es pos) (tE X.K W (vLst l)) := by
  refine ⟨fun pins s σ H Q I hq => (pe_lst h).run pins s σ H Q I ?_⟩
  refine (tL.then (k := fun _ xs S1 => if xs.length ≤ 1000 then .ok (.ref S1.length) (S1 ++ [.lst xs]) else .bad) hq).mono fun vs H1 ⟨m, E, S, ds, re, rs, rv, p⟩ => ?_
  try dsimp only at p
  by_cases hz : ds.length ≤ 1000
  · rw [if_pos hz] at p
    refine ⟨by rw [← rv.len]; exact le1000 hz, fun q hq => ?_⟩
    obtain ⟨l1, r1⟩ := rs.alloc hq rv
    exact p _ _ _ l1 r1 (.ref (by rw [← rs.len]; simp))
  · rw [if_neg hz] at p; exact p.elim
theorem e_emp : PE X (.Dict [] [] pos) (tE X.K W vEmp) := by
  refine ⟨fun pins s σ H Q I ⟨m, E, S, re, rs, p⟩ => pe_dnewK.run pins s σ H Q I fun q hq => ?_⟩
  exact p _ m _ (Le.new hq) (rs.side hq) (.emp upd_same)
theorem e_if {c a b : Expr} {t : FB} {f1 f2 : FE} (hc : PT X c (tT X.K W t)) (ha : PE X a (tE X.K W f1)) (hb : PE X b (tE X.K W f2)) : PE X (.IfExp c a b pos) (tE X.K W (vIf t f1 f2)) := by
  refine ⟨fun pins s σ H Q I h => (pe_ifExp hc ha hb).run pins s σ H Q I ?_⟩
  refine (tT.then (k := fun E b S1 => if b then f1 E S1 else f2 E S1) h).mono fun b H1 ⟨m, E, S, re, rs, p⟩ => ?_
  try dsimp only at p
  cases b with
  | true => exact iteT ⟨m, E, S, re, rs, p⟩
  | false => exact iteF ⟨m, E, S, re, rs, p⟩
theorem truV {K : PySem.W.Frag} {H : Hp} {m : List Addr} {S : Sto} {d : D} {v : V} {b : Bool} (rs : RS K H m S) (rv : RV K H m d v) (h : truth d S = some b) : TruV K v H b := by
  cases rv with
  | non => cases h; rfl
  | bl b => cases h; rfl
  | int i => cases h; rfl
  | str x =>
    have h' : (if x.length ≤ sizeLine then some ((x.length : Int) != 0) else none) = some b := h
    by_cases hz : x.length ≤ sizeLine
    · rw [if_pos hz] at h'; cases h'; exact ⟨hz, rfl⟩
    · rw [if_neg hz] at h'; cases h'
  | tup h1 h2 =>
    cases h
    refine .inr (.inl ⟨_, h1, ?_⟩)
    cases h2 <;> rfl
  | fl h1 h2 =>
    cases h
    refine .inl ⟨_, h1.sq, ?_⟩
    cases h2 <;> rfl
  | emp h1 => cases h; exact .inr (.inr ⟨_, h1, rfl⟩)
  | ref h1 =>
    rename_i n a
    unfold truth at h
    cases e : S[n]? with
    | none => simp [e] at h
    | some c =>
      cases c with
      | lst xs =>
        simp only [e] at h
        cases h
        obtain ⟨a', vs, e1, h2, h3, h4⟩ := rs.list e (.ref h1)
        cases e1
        refine .inl ⟨_, SqL.of h3, ?_⟩
        cases h4 <;> rfl
      | exc c fs => simp [e] at h
      | ins c fs => simp [e] at h
theorem t_of {a : Expr} {f : FE} (ha : PE X a (tE X.K W f)) (he : ∀ whole, isTrue a X.env whole = (do let v ← whole; standAt a.pos; holding [v] (truthy v)) := by intro _; rfl) : PT X a (tT X.K W (bOf f)) := by
  refine ⟨fun pins s σ H Q I h => (pt_truth ha he).run pins s σ H Q I ?_⟩
  refine (tE.thenB (k := fun _ d S1 => match truth d S1 with | some b => .ok b S1 | none => .bad) h).mono fun v H1 ⟨m, E, S, d, re, rs, rv, p⟩ => ?_
  try dsimp only at p
  cases e : truth d S with
  | none => simp [e] at p; exact p.elim
  | some b => simp [e] at p; exact ⟨b, truV rs rv e, p H1 m Le.refl rs⟩
theorem t_cmp {op : CmpOp} {a b : Expr} {f1 f2 : FE} {g} (ho : O2 X (compareOp op) g) (hm : behindInMarks op b = false) (ha : PE X a (tE X.K W f1)) (hb : PE X b (tE X.K W f2)) : PT X (.Compare a [op] [b] pos) (tT X.K W (bCmp g f1 f2)) := by
  refine ⟨fun pins s σ H Q I h => ?_⟩
  refine wpAny_isTrue_Compare1 (binT ha hb I (tE.twoB h) fun v u s2 x y H2 I2 rx ry ⟨m, S, d, e, rs, rd, re, p⟩ => ?_) hm
  have q : PV X.K W H2 m σ (g d e S) (fun z H3 => ∃ k, z = .bl k ∧ Q k H3) := by
    cases ee : g d e S with
    | ok z S1 =>
      rw [ee] at p
      intro H3 m3 z' l rs3 rz
      cases z with
      | bl k => cases rz; exact ⟨k, rfl, p H3 m3 l rs3⟩
      | _ => exact p.elim
    | exc c fs S1 => rw [ee] at p; exact p
    | bad => rw [ee] at p; exact p
  refine thn (ho W pins s2 σ H2 m S d e x y v u _ I2 rs rd re rx ry q) fun c s3 ⟨z, H3, I3, r3, k, e, q3⟩ => ?_
  subst e
  cases r3
  exact wpAny_truthy_bool ⟨H3, I3, q3⟩
theorem w_and1 {a : Expr} {f : FB} (ha : PT X a (tT X.K W f)) : PW X (.BoolOp .And [a] pos) (tT X.K W f) := pw_and1 ha
theorem w_or1 {a : Expr} {f : FB} (ha : PT X a (tT X.K W f)) : PW X (.BoolOp .Or [a] pos) (tT X.K W f) := pw_or1 ha
theorem w_and {a b : Expr} {rest : List Expr} {f g : FB} (ha : PT X a (tT X.K W f)) (hb : PW X (.BoolOp .And (b :: rest) pos) (tT X.K W g)) : PW X (.BoolOp .And (a :: b :: rest) pos) (tT X.K W (bAnd f g)) := by
  refine ⟨fun wh pins s σ H Q I h => (pw_and ha hb).run wh pins s σ H Q I ?_⟩
  refine (tT.thenB (k := fun E b S1 => if b then g E S1 else .ok false S1) h).mono fun b H1 ⟨m, E, S, re, rs, p⟩ => ?_
  try dsimp only at p
  cases b with
  | true => exact iteT ⟨m, E, S, re, rs, p⟩
  | false => exact iteF (p H1 m Le.refl rs)
theorem w_or {a b : Expr} {rest : List Expr} {f g : FB} (ha : PT X a (tT X.K W f)) (hb : PW X (.BoolOp .Or (b :: rest) pos) (tT X.K W g)) : PW X (.BoolOp .Or (a :: b :: rest) pos) (tT X.K W (bOr f g)) := by
  refine ⟨fun wh pins s σ H Q I h => (pw_or ha hb).run wh pins s σ H Q I ?_⟩
  refine (tT.thenB (k := fun E b S1 => if b then .ok true S1 else g E S1) h).mono fun b H1 ⟨m, E, S, re, rs, p⟩ => ?_
  try dsimp only at p
  cases b with
  | true => exact iteT (p H1 m Le.refl rs)
  | false => exact iteF ⟨m, E, S, re, rs, p⟩
theorem t_not {a : Expr} {f : FB} (ha : PT X a (tT X.K W f)) : PT X (.UnaryOp .Not a pos) (tT X.K W (bNot f)) := by
  refine ⟨fun pins s σ H Q I h => (pt_not ha).run pins s σ H Q I ?_⟩
  exact (tT.thenB (k := fun E b S1 => .ok (!b) S1) h).mono fun b H1 ⟨m, E, S, re, rs, p⟩ => p H1 m Le.refl rs
theorem e_and {a b : Expr} {rest : List Expr} {f g : FE} (ha : PE X a (tE X.K W f)) (hb : PE X (.BoolOp .And (b :: rest) pos) (tE X.K W g)) : PE X (.BoolOp .And (a :: b :: rest) pos) (tE X.K W (vAnd f g)) := by
  refine ⟨fun pins s σ H Q I h => (pe_andT ha hb).run pins s σ H Q I ?_⟩
  refine (tE.then (k := fun E d S1 => match truth d S1 with | some b => if b then g E S1 else .ok d S1 | none => .bad) h).mono fun v H1 ⟨m, E, S, d, re, rs, rv, p⟩ => ?_
  try dsimp only at p
  cases e : truth d S with
  | none => simp [e] at p; exact p.elim
  | some b =>
    simp only [e] at p
    refine ⟨b, truV rs rv e, ?_⟩
    cases b with
    | true => exact iteT ⟨m, E, S, re, rs, p⟩
    | false => exact iteF (p H1 m v Le.refl rs rv)
theorem e_or {a b : Expr} {rest : List Expr} {f g : FE} (ha : PE X a (tE X.K W f)) (hb : PE X (.BoolOp .Or (b :: rest) pos) (tE X.K W g)) : PE X (.BoolOp .Or (a :: b :: rest) pos) (tE X.K W (vOr f g)) := by
  refine ⟨fun pins s σ H Q I h => (pe_orT ha hb).run pins s σ H Q I ?_⟩
  refine (tE.then (k := fun E d S1 => match truth d S1 with | some b => if b then .ok d S1 else g E S1 | none => .bad) h).mono fun v H1 ⟨m, E, S, d, re, rs, rv, p⟩ => ?_
  try dsimp only at p
  cases e : truth d S with
  | none => simp [e] at p; exact p.elim
  | some b =>
    simp only [e] at p
    refine ⟨b, truV rs rv e, ?_⟩
    cases b with
    | true => exact iteT (p H1 m v Le.refl rs rv)
    | false => exact iteF ⟨m, E, S, re, rs, p⟩
theorem e_one {op} {a : Expr} {f : FE} (h : PE X a (tE X.K W f)) : PE X (.BoolOp op [a] pos) (tE X.K W f) := pe_one h
theorem e_not {a : Expr} {f : FE} (ha : PE X a (tE X.K W f)) : PE X (.UnaryOp .Not a pos) (tE X.K W (vNot f)) := by
  refine ⟨fun pins s σ H Q I h => (pe_notT ha).run pins s σ H Q I ?_⟩
  refine (tE.then (k := fun E d S1 => match truth d S1 with | some b => .ok (.bl (!b)) S1 | none => .bad) h).mono fun v H1 ⟨m, E, S, d, re, rs, rv, p⟩ => ?_
  try dsimp only at p
  cases e : truth d S with
  | none => simp [e] at p; exact p.elim
  | some b =>
    simp only [e] at p
    exact ⟨b, truV rs rv e, p H1 m _ Le.refl rs (.bl _)⟩
/-- f(e, ..), f a builtin -/
theorem e_callB {x : Str} {id : String} {p : Pos} {e : Expr} {es : List Expr} {l : FL} {g} (hc : OC X (.builtin id) g) (hg : Gl X x) (hm : X.mg x = none) (hv : bootBuiltins x = some (.builtin id)) (ha : PA X (e :: es) (tL X.K W l))
    (hn : x ≠ "__name__" := by decide) (hdb : (x == ("__debug__" : Str)) = false := by decide) (he : starEach (e :: es) X.env = (false, eval e X.env) :: starEach es X.env := by rfl) (hpl : (backTo pos (starEach es X.env)).any (·.1) = false := by rfl) :
    PE X (.Call (.Name x p) (e :: es) [] pos) (tE X.K W (vCall g l)) := by
  refine ⟨fun pins s σ H Q I h => ?_⟩
  refine wpAny_Call_Name_kw (ld_blt I hg hm hv ?_ hn hdb)
  exact callWith_builtin1 (thn (ha.run pos pins s σ H _ I (tL.then (k := fun _ => g) h)) fun us s1 ⟨vs, H1, I1, r, m, E, S, ds, re, rs, rv, p⟩ => hc W pins s1 σ H1 m S ds vs us Q I1 rs rv r p) he hpl
/-- f(e, ..), f a builtin of a module that is imported by its name -/
theorem e_callM {x : Str} {id : String} {p : Pos} {e : Expr} {es : List Expr} {l : FL} {g} (hc : OC X (.builtin id) g) (hg : Gl X x) (hm : X.mg x = some (.builtin id)) (ha : PA X (e :: es) (tL X.K W l)) (hdb : (x == ("__debug__" : Str)) = false := by decide)
    (he : starEach (e :: es) X.env = (false, eval e X.env) :: starEach es X.env := by rfl)
    (hpl : (backTo pos (starEach es X.env)).any (·.1) = false := by rfl) : PE X (.Call (.Name x p) (e :: es) [] pos) (tE X.K W (vCall g l)) := by
  refine ⟨fun pins s σ H Q I h => ?_⟩
  refine wpAny_Call_Name_kw (ld_glob I hg hm ?_ hdb)
  exact callWith_builtin1 (thn (ha.run pos pins s σ H _ I (tL.then (k := fun _ => g) h)) fun us s1 ⟨vs, H1, I1, r, m, E, S, ds, re, rs, rv, p⟩ => hc W pins s1 σ H1 m S ds vs us Q I1 rs rv r p) he hpl
/-- T(e, ..), T a type of the language -/
theorem e_callT {x : Str} {T : String} {p : Pos} {e : Expr} {es : List Expr} {l : FL} {g} (hc : OC X (.type T) g) (hg : Gl X x) (hm : X.mg x = none) (hv : bootBuiltins x = some (.type T)) (ha : PA X (e :: es) (tL X.K W l))
    (hn : x ≠ "__name__" := by decide) (hdb : (x == ("__debug__" : Str)) = false := by decide)
    (he : starEach (e :: es) X.env = (false, eval e X.env) :: starEach es X.env := by rfl)
    (hpl : (backTo pos (starEach es X.env)).any (·.1) = false := by rfl) : PE X (.Call (.Name x p) (e :: es) [] pos) (tE X.K W (vCall g l)) := by
  refine ⟨fun pins s σ H Q I h => ?_⟩
  refine wpAny_Call_Name_kw (ld_blt I hg hm hv ?_ hn hdb)
  exact callWith_type1 (thn (ha.run pos pins s σ H _ I (tL.then (k := fun _ => g) h)) fun us s1 ⟨vs, H1, I1, r, m, E, S, ds, re, rs, rv, p⟩ => hc W pins s1 σ H1 m S ds vs us Q I1 rs rv r p) he hpl
end
end Z
namespace Z
open PySem PySem.Spec PyProof.Rows L2

def listOf (S : Sto) (d : D) : Option (List D) := match d with
  | .ref n => (match S[n]? with
    | some (.lst xs) => some xs
    | _ => none)
  | .fl xs => some xs
  | _ => none
/-- lists and tuples -/
def seqOf (S : Sto) (d : D) : Option (List D) := match d with
  | .tup xs => some xs
  | _ => listOf S d
@[simp] theorem listOf_ref (S : Sto) (n : Nat) : listOf S (.ref n) = match S[n]? with | some (.lst xs) => some xs | _ => none := rfl
@[simp] theorem listOf_fl (S : Sto) (xs : List D) : listOf S (.fl xs) = some xs := rfl
@[simp] theorem listOf_tup (S : Sto) (xs : List D) : listOf S (.tup xs) = none := rfl
@[simp] theorem seqOf_tup (S : Sto) (xs : List D) : seqOf S (.tup xs) = some xs := rfl
@[simp] theorem seqOf_ref (S : Sto) (n : Nat) : seqOf S (.ref n) = listOf S (.ref n) := rfl
@[simp] theorem seqOf_fl (S : Sto) (xs : List D) : seqOf S (.fl xs) = some xs := rfl
section
variable {K : PySem.W.Frag} {H : Hp} {m : List Addr} {S : Sto}
theorem list_at {d : D} {v : V} {xs : List D} (rs : RS K H m S) (rv : RV K H m d v) (h : listOf S d = some xs) : ∃ a vs, v = .ref a ∧ SqL K H a vs ∧ RVs K H m xs vs := by
  cases rv with
  | ref h1 =>
    rename_i n a
    cases e : S[n]? with
    | none => simp [e] at h
    | some c =>
      cases c with
      | lst ys =>
        simp [e] at h
        subst h
        obtain ⟨a', vs, e1, h2, h3, h4⟩ := rs.list e (.ref h1)
        cases e1
        exact ⟨_, vs, rfl, SqL.of h3, h4⟩
      | exc c fs => simp [e] at h
      | ins c fs => simp [e] at h
  | fl h1 h2 => simp at h; subst h; exact ⟨_, _, rfl, h1.sq, h2⟩
  | _ => simp [listOf] at h
theorem seq_at {d : D} {v : V} {xs : List D} (rs : RS K H m S) (rv : RV K H m d v) (h : seqOf S d = some xs) : ∃ a vs, v = .ref a ∧ (SqL K H a vs ∨ SqT K H a vs) ∧ RVs K H m xs vs := by
  cases rv with
  | tup h1 h2 => simp at h; subst h; exact ⟨_, _, rfl, .inr h1, h2⟩
  | ref h1 =>
    obtain ⟨a, vs, e, h2, h3⟩ := list_at rs (.ref h1) h
    exact ⟨a, vs, e, .inl h2, h3⟩
  | fl h1 h2 =>
    obtain ⟨a, vs, e, h2, h3⟩ := list_at rs (.fl h1 h2) h
    exact ⟨a, vs, e, .inl h2, h3⟩
  | _ => simp [seqOf, listOf] at h
theorem RVs.ints : ∀ {ns : List Int} {vs : List V}, RVs K H m (ns.map D.int) vs → vs = ns.map V.int
  | [], _, .nil => rfl
  | _ :: _, _, .cons r t => by
    cases r
    rw [RVs.ints t]
    rfl
theorem RVs.of_ints : ∀ (ns : List Int), RVs K H m (ns.map D.int) (ns.map V.int)
  | [] => .nil
  | _ :: t => .cons (.int _) (RVs.of_ints t)
theorem RVs.bls : ∀ {ns : List Bool} {vs : List V}, RVs K H m (ns.map D.bl) vs → vs = ns.map V.bl
  | [], _, .nil => rfl
  | _ :: _, _, .cons r t => by
    cases r
    rw [RVs.bls t]
    rfl
theorem RVs.strs : ∀ {ns : List Str} {vs : List V}, RVs K H m (ns.map D.str) vs → vs = ns.map V.str
  | [], _, .nil => rfl
  | _ :: _, _, .cons r t => by
    cases r
    rw [RVs.strs t]
    rfl
theorem RVs.of_strs : ∀ (ns : List Str), RVs K H m (ns.map D.str) (ns.map V.str)
  | [] => .nil
  | _ :: t => .cons (.str _) (RVs.of_strs t)
end
def intsOf : List D → Option (List Int)
  | [] => some []
  | .int i :: r => (intsOf r).map (i :: ·)
  | _ => none
def blsOf : List D → Option (List Bool)
  | [] => some []
  | .bl i :: r => (blsOf r).map (i :: ·)
  | _ => none
def strsOf : List D → Option (List Str)
  | [] => some []
  | .str i :: r => (strsOf r).map (i :: ·)
  | _ => none
theorem intsOf_eq : ∀ {ds : List D} {ns : List Int}, intsOf ds = some ns → ds = ns.map D.int
  | [], _, h => by simp [intsOf] at h; subst h; rfl
  | d :: r, _, h => by
    cases d with
    | int i =>
      simp only [intsOf, Option.map_eq_some_iff] at h
      obtain ⟨t, h1, rfl⟩ := h
      rw [intsOf_eq h1]
      rfl
    | _ => simp [intsOf] at h
theorem blsOf_eq : ∀ {ds : List D} {ns : List Bool}, blsOf ds = some ns → ds = ns.map D.bl
  | [], _, h => by simp [blsOf] at h; subst h; rfl
  | d :: r, _, h => by
    cases d with
    | bl i =>
      simp only [blsOf, Option.map_eq_some_iff] at h
      obtain ⟨t, h1, rfl⟩ := h
      rw [blsOf_eq h1]
      rfl
    | _ => simp [blsOf] at h
theorem strsOf_eq : ∀ {ds : List D} {ns : List Str}, strsOf ds = some ns → ds = ns.map D.str
  | [], _, h => by simp [strsOf] at h; subst h; rfl
  | d :: r, _, h => by
    cases d with
    | str i =>
      simp only [strsOf, Option.map_eq_some_iff] at h
      obtain ⟨t, h1, rfl⟩ := h
      rw [strsOf_eq h1]
      rfl
    | _ => simp [strsOf] at h
@[simp] theorem intsOf_map (ns : List Int) : intsOf (ns.map D.int) = some ns := by
  induction ns with
  | nil => rfl
  | cons a t ih => simp [intsOf, ih]
@[simp] theorem blsOf_map (ns : List Bool) : blsOf (ns.map D.bl) = some ns := by
  induction ns with
  | nil => rfl
  | cons a t ih => simp [blsOf, ih]
@[simp] theorem strsOf_map (ns : List Str) : strsOf (ns.map D.str) = some ns := by
  induction ns with
  | nil => rfl
  | cons a t ih => simp [strsOf, ih]

/-! ## operators -/
def gAdd (d e : D) (S : Sto) : Res := match d, e with
  | .int i, .int j => .ok (.int (i + j)) S
  | .str x, .str y => if x.length + y.length ≤ sizeLine then .ok (.str (x ++ y)) S else .bad
  | .tup xs, .tup ys => if xs.length + ys.length ≤ 1000 then .ok (.tup (xs ++ ys)) S else .bad
  | .ref a, .ref b => (match S[a]?, S[b]? with
    | some (.lst xs), some (.lst ys) => if xs.length + ys.length ≤ 100000 then .ok (.ref S.length) (S ++ [.lst (xs ++ ys)]) else .bad
    | _, _ => .bad)
  | _, _ => .bad
def gSub (d e : D) (S : Sto) : Res := match d, e with
  | .int i, .int j => .ok (.int (i - j)) S
  | _, _ => .bad
def strRep (x : Str) (n : Int) : Str := if n < 1 then Str.empty else if (n == 1 || x.length == 0) = true then x else ⟨(List.replicate n.toNat x.cps).foldl (· ++ ·) #[]⟩
def gMul (d e : D) (S : Sto) : Res := match d, e with
  | .int i, .int j => if i.natAbs.log2 + j.natAbs.log2 < 1000000 then .ok (.int (i * j)) S else .bad
  | .ref a, .int k => (match S[a]? with
    | some (.lst xs) => if 0 ≤ k ∧ k ≤ 1000 ∧ xs.length ≤ 1000 then .ok (.ref S.length) (S ++ [.lst (List.replicate k.toNat xs).flatten]) else .bad
    | _ => .bad)
  | .str x, .int k => if 0 ≤ k ∧ k ≤ 1000 ∧ x.length ≤ 1000 then .ok (.str (strRep x k)) S else .bad
  | _, _ => .bad
def gDiv (d e : D) (S : Sto) : Res := match d, e with
  | .int i, .int j => if j ≠ 0 ∧ j.natAbs.log2 < 9000 then .ok (.int (i.fdiv j)) S else .bad
  | _, _ => .bad
def gMod (d e : D) (S : Sto) : Res := match d, e with
  | .int i, .int j => if 0 < j then .ok (.int (i % j)) S else .bad
  | _, _ => .bad
def gPow (d e : D) (S : Sto) : Res := match d, e with
  | .int i, .int j => if 0 ≤ j ∧ j ≤ 1000000 ∧ i.natAbs < 2 ^ 64 then .ok (.int (i ^ j.toNat)) S else .bad
  | _, _ => .bad
def gNeg (d : D) (S : Sto) : Res := match d with
  | .int i => .ok (.int (-i)) S
  | _ => .bad
def gCmpI (p : Int → Int → Bool) (d e : D) (S : Sto) : Res := match d, e with
  | .int i, .int j => .ok (.bl (p i j)) S
  | _, _ => .bad
abbrev gLt := gCmpI fun i j => decide (i < j)
abbrev gLe := gCmpI fun i j => decide (i ≤ j)
abbrev gGt := gCmpI fun i j => decide (j < i)
abbrev gGe := gCmpI fun i j => decide (j ≤ i)
section
variable {X : Cx}
theorem o_add : O2 X (binaryOp .Add) gAdd := by
  intro W pins s σ H m S d e x y v u Q I rs rd re rx ry p
  cases rd with
  | int i =>
    cases re with
    | int j => exact op_add pins s σ H _ _ v u Q I rx ry ⟨i, j, rfl, rfl, p H m _ Le.refl rs (.int _)⟩
    | _ => exact p.elim
  | str i =>
    cases re with
    | str j =>
      have p' : PV X.K W H m σ (if i.length + j.length ≤ sizeLine then .ok (.str (i ++ j)) S else .bad) Q := p
      by_cases hz : i.length + j.length ≤ sizeLine
      · rw [if_pos hz] at p'
        exact op_add_str pins s σ H _ _ v u Q I rx ry ⟨i, j, rfl, rfl, hz, p' H m _ Le.refl rs (.str _)⟩
      · rw [if_neg hz] at p'; exact p'.elim
    | _ => exact p.elim
  | tup h1 h2 =>
    cases re with
    | tup h3 h4 =>
      rename_i a xs vs b ys us
      have p' : PV X.K W H m σ (if xs.length + ys.length ≤ 1000 then .ok (.tup (xs ++ ys)) S else .bad) Q := p
      by_cases hz : xs.length + ys.length ≤ 1000
      · rw [if_pos hz] at p'
        refine op_catA pins s σ H _ _ v u Q I rx ry ⟨a, b, vs, us, rfl, rfl, h1, h3, by rw [← h2.len, ← h4.len]; exact le1000 hz, fun e => ?_, fun _ e => ?_, fun _ _ q hq => ?_⟩
        · subst e
          cases h2
          exact p' H m _ Le.refl rs (.tup h3 h4)
        · subst e
          cases h4
          rw [List.append_nil] at p'
          exact p' H m _ Le.refl rs (.tup h1 h2)
        · have l1 : Le X.K H m (upd H q (.tup (vs ++ us))) m := Le.new hq
          exact p' _ m _ l1 (rs.side hq) (.tup (SqT.of upd_same) ((h2.app h4).up l1))
      · rw [if_neg hz] at p'; exact p'.elim
    | _ => exact p.elim
  | ref h1 =>
    cases re with
    | ref h2 =>
      rename_i n a k b
      unfold gAdd at p
      cases e1 : S[n]? with
      | none => simp [e1] at p; exact p.elim
      | some c =>
        cases c with
        | lst xs =>
          cases e2 : S[k]? with
          | none => simp [e1, e2] at p; exact p.elim
          | some c2 =>
            cases c2 with
            | lst ys =>
              simp only [e1, e2] at p
              by_cases hz : xs.length + ys.length ≤ 100000
              · rw [if_pos hz] at p
                obtain ⟨a', vs, q1, q2, q3, q4⟩ := rs.list e1 (.ref h1)
                obtain ⟨b', us, q5, q6, q7, q8⟩ := rs.list e2 (.ref h2)
                cases q1
                cases q5
                refine op_cat pins s σ H _ _ v u Q I rx ry ⟨_, _, vs, us, rfl, rfl, q3, q7, by rw [← q4.len, ← q8.len]; exact Nat.le_trans hz (by decide), fun q hq => ?_⟩
                obtain ⟨l1, r1⟩ := rs.alloc hq (q4.app q8)
                exact p _ _ _ l1 r1 (.ref (by rw [← rs.len]; simp))
              · rw [if_neg hz] at p; exact p.elim
            | _ => simp [e1, e2] at p; exact p.elim
        | _ => simp [e1] at p; exact p.elim
    | _ => exact p.elim
  | _ => cases re <;> exact p.elim
theorem o_sub : O2 X (binaryOp .Sub) gSub := by
  intro W pins s σ H m S d e x y v u Q I rs rd re rx ry p
  cases rd with
  | int i =>
    cases re with
    | int j => exact op_sub pins s σ H _ _ v u Q I rx ry ⟨i, j, rfl, rfl, p H m _ Le.refl rs (.int _)⟩
    | _ => exact p.elim
  | _ => cases re <;> exact p.elim
theorem RVs.rep {K H m} {ds : List D} {vs : List V} (h : RVs K H m ds vs) : ∀ n : Nat, RVs K H m (List.replicate n ds).flatten (List.replicate n vs).flatten
  | 0 => .nil
  | n + 1 => by
    rw [List.replicate_succ, List.replicate_succ, List.flatten_cons, List.flatten_cons]
    exact h.app (RVs.rep h n)
theorem o_mul : O2 X (binaryOp .Mult) gMul := by
  intro W pins s σ H m S d e x y v u Q I rs rd re rx ry p
  cases rd with
  | int i =>
    cases re with
    | int j =>
      have p' : PV X.K W H m σ (if i.natAbs.log2 + j.natAbs.log2 < 1000000 then .ok (.int (i * j)) S else .bad) Q := p
      by_cases hz : i.natAbs.log2 + j.natAbs.log2 < 1000000
      · rw [if_pos hz] at p'
        exact op_mulW pins s σ H _ _ v u Q I rx ry ⟨i, j, rfl, rfl, hz, p' H m _ Le.refl rs (.int _)⟩
      · rw [if_neg hz] at p'; exact p'.elim
    | _ => exact p.elim
  | ref h1 =>
    cases re with
    | int k =>
      rename_i n a
      unfold gMul at p
      cases e1 : S[n]? with
      | none => simp [e1] at p; exact p.elim
      | some c =>
        cases c with
        | lst xs =>
          simp only [e1] at p
          by_cases hz : 0 ≤ k ∧ k ≤ 1000 ∧ xs.length ≤ 1000
          · rw [if_pos hz] at p
            obtain ⟨z1, z2, z3⟩ := hz
            obtain ⟨a', vs, q1, q2, q3, q4⟩ := rs.list e1 (.ref h1)
            cases q1
            have hk : k.toNat ≤ 1000 := by omega
            have hl : vs.length * k.toNat ≤ sizeLine := by
              rw [← q4.len]
              exact Nat.le_trans (Nat.mul_le_mul z3 hk) (by decide)
            refine op_rep pins s σ H _ _ v u Q I rx ry ⟨_, k, vs, rfl, rfl, q3, by omega, by omega, hl, fun q hq => ?_⟩
            obtain ⟨l1, r1⟩ := rs.alloc hq (q4.rep k.toNat)
            exact p _ _ _ l1 r1 (.ref (by rw [← rs.len]; simp))
          · rw [if_neg hz] at p; exact p.elim
        | _ => simp [e1] at p; exact p.elim
    | _ => exact p.elim
  | str x =>
    cases re with
    | int k =>
      have p' : PV X.K W H m σ (if 0 ≤ k ∧ k ≤ 1000 ∧ x.length ≤ 1000 then .ok (.str (strRep x k)) S else .bad) Q := p
      by_cases hz : 0 ≤ k ∧ k ≤ 1000 ∧ x.length ≤ 1000
      · rw [if_pos hz] at p'
        obtain ⟨z1, z2, z3⟩ := hz
        obtain ⟨t, rfl⟩ := rx
        obtain ⟨t', rfl⟩ := ry
        have q := p' H m _ Le.refl rs (.str _)
        have hk : k.toNat ≤ 1000 := by omega
        have hl : x.length * k.toNat ≤ 1000 * 1000 := Nat.mul_le_mul z3 hk
        have tl : Builtin.Str.tooLong (x.length * k.toNat) = false := by
          have h2 : x.length * k.toNat ≤ sizeLine := Nat.le_trans hl (by decide)
          unfold Builtin.Str.tooLong
          simpa using h2
        refine PySem.P.mul_str (by
          have h1 : ¬ k < -(2 ^ 63 : Int) := by omega
          have h2 : ¬ k ≥ (2 ^ 63 : Int) := by omega
          rw [decide_eq_false h1, decide_eq_false h2]; rfl) (fun h1 _ h3 => ?_) (fun _ _ => tl) ?_
        · have h4 : ((2 ^ 63 - 1 : Int) / k) ≥ (2 ^ 63 - 1 : Int) / 1000 := by
            have : (2 ^ 63 - 1 : Int) / 1000 * k ≤ 2 ^ 63 - 1 := by
              have : (2 ^ 63 - 1 : Int) / 1000 * k ≤ (2 ^ 63 - 1 : Int) / 1000 * 1000 := Int.mul_le_mul_of_nonneg_left z2 (by decide)
              exact Int.le_trans this (by decide)
            exact (Int.le_ediv_iff_mul_le (by omega)).mpr this
          have h5 : ((2 ^ 63 - 1 : Int) / 1000) ≥ 1000 := by decide
          omega
        · unfold strRep at q
          split
          · rename_i h; rw [if_pos h] at q; exact ⟨by decide, ⟨.str _, H, I.tok _, ⟨_, rfl⟩, q⟩⟩
          · rename_i h
            rw [if_neg h] at q
            split
            · rename_i h2; rw [if_pos h2] at q; exact ⟨.str _, H, I, ⟨_, rfl⟩, q⟩
            · rename_i h2
              rw [if_neg h2] at q
              exact ⟨by
                have e : (⟨(List.replicate k.toNat x.cps).foldl (· ++ ·) #[]⟩ : Str).length = x.length * k.toNat := by
                  show ((List.replicate k.toNat x.cps).foldl (· ++ ·) #[]).size = _
                  have gen : ∀ (n : Nat) (acc : Array Nat), ((List.replicate n x.cps).foldl (· ++ ·) acc).size = acc.size + x.cps.size * n := by
                    intro n
                    induction n with
                    | zero => intro acc; simp
                    | succ n ih =>
                      intro acc
                      rw [List.replicate_succ, List.foldl_cons, ih, Array.size_append, Nat.mul_succ]
                      omega
                  rw [gen]
                  simp
                  rfl
                first
                  | (rw [e]; exact tl)
                  | (rw [e]; exact Nat.le_trans hl (by decide)), ⟨.str _, H, I.tok _, ⟨_, rfl⟩, q⟩⟩
      · rw [if_neg hz] at p'; exact p'.elim
    | _ => exact p.elim
  | _ => cases re <;> exact p.elim
theorem op_quo : OpR X (binaryOp .FloorDiv) (rI (fun _ j => j ≠ 0 ∧ j.natAbs.log2 < 9000) fun i j => .int (i.fdiv j)) := opI fun _ _ _ _ _ _ _ hc q => floordiv_int hc.1 q (.inl (PyProof.noPylong_of_log2 hc.2))
theorem o_div : O2 X (binaryOp .FloorDiv) gDiv := by
  intro W pins s σ H m S d e x y v u Q I rs rd re rx ry p
  cases rd with
  | int i =>
    cases re with
    | int j =>
      have p' : PV X.K W H m σ (if j ≠ 0 ∧ j.natAbs.log2 < 9000 then .ok (.int (i.fdiv j)) S else .bad) Q := p
      by_cases hz : j ≠ 0 ∧ j.natAbs.log2 < 9000
      · rw [if_pos hz] at p'
        exact op_quo pins s σ H _ _ v u Q I rx ry ⟨i, j, rfl, rfl, hz, p' H m _ Le.refl rs (.int _)⟩
      · rw [if_neg hz] at p'; exact p'.elim
    | _ => exact p.elim
  | _ => cases re <;> exact p.elim
theorem o_mod : O2 X (binaryOp .Mod) gMod := by
  intro W pins s σ H m S d e x y v u Q I rs rd re rx ry p
  cases rd with
  | int i =>
    cases re with
    | int j =>
      have p' : PV X.K W H m σ (if 0 < j then .ok (.int (i % j)) S else .bad) Q := p
      by_cases hz : 0 < j
      · rw [if_pos hz] at p'
        exact op_mod pins s σ H _ _ v u Q I rx ry ⟨i, j, rfl, rfl, hz, p' H m _ Le.refl rs (.int _)⟩
      · rw [if_neg hz] at p'; exact p'.elim
    | _ => exact p.elim
  | _ => cases re <;> exact p.elim
theorem o_pow : O2 X (binaryOp .Pow) gPow := by
  intro W pins s σ H m S d e x y v u Q I rs rd re rx ry p
  cases rd with
  | int i =>
    cases re with
    | int j =>
      have p' : PV X.K W H m σ (if 0 ≤ j ∧ j ≤ 1000000 ∧ i.natAbs < 2 ^ 64 then .ok (.int (i ^ j.toNat)) S else .bad) Q := p
      by_cases hz : 0 ≤ j ∧ j ≤ 1000000 ∧ i.natAbs < 2 ^ 64
      · rw [if_pos hz] at p'
        exact op_pow pins s σ H _ _ v u Q I rx ry ⟨i, j, rfl, rfl, hz, p' H m _ Le.refl rs (.int _)⟩
      · rw [if_neg hz] at p'; exact p'.elim
    | _ => exact p.elim
  | _ => cases re <;> exact p.elim
theorem o_neg : O1 X (unaryOp .USub) gNeg := by
  intro W pins s σ H m S d x v Q I rs rd rx p
  cases rd with
  | int i => exact un_neg pins s σ H _ v Q I rx ⟨i, rfl, p H m _ Le.refl rs (.int _)⟩
  | _ => exact p.elim
theorem o_cmpI {f : Value → Value → Sem Value} {g : Int → Int → Bool} (h : OpR X f (rI0 fun i j => .bl (g i j))) : O2 X f (gCmpI g) := by
  intro W pins s σ H m S d e x y v u Q I rs rd re rx ry p
  cases rd with
  | int i =>
    cases re with
    | int j => exact h pins s σ H _ _ v u Q I rx ry ⟨i, j, rfl, rfl, p H m _ Le.refl rs (.bl _)⟩
    | _ => exact p.elim
  | _ => cases re <;> exact p.elim
theorem o_lt : O2 X (compareOp .Lt) gLt := o_cmpI op_lt
theorem o_le : O2 X (compareOp .LtE) gLe := o_cmpI op_le
theorem o_gt : O2 X (compareOp .Gt) gGt := o_cmpI op_gt
theorem o_ge : O2 X (compareOp .GtE) gGe := o_cmpI op_ge
end

/-! ## data as a whole: ==, repr -/
def optAll {α β : Type} (f : α → Option β) : List α → Option (List β)
  | [] => some []
  | d :: ds => match f d, optAll f ds with
    | some p, some ps => some (p :: ps)
    | _, _ => none
def toPD (S : Sto) : Nat → D → Option PyData
  | 0, _ => none
  | k + 1, d => match d with
    | .non => some .none
    | .bl b => some (.bool b)
    | .int i => some (.int i)
    | .str x => some (.str x)
    | .tup xs => (optAll (toPD S k) xs).map .tuple
    | .fl xs => (optAll (toPD S k) xs).map .list
    | .ref n => (match S[n]? with
      | some (.lst xs) => (optAll (toPD S k) xs).map .list
      | _ => none)
    | .emp => some (.dict [])
section
variable {K : PySem.W.Frag} {H : Hp} {m : List Addr} {S : Sto}
end
mutual
/-- no list in it -/
def noList : PyData → Bool
  | .list _ => false
  | .tuple xs => noListAll xs
  | _ => true
def noListAll : List PyData → Bool
  | [] => true
  | x :: xs => noList x && noListAll xs
end
section
variable {X : Cx} {pins : List (Addr × Obj)} {σ : L2.St} {H : Hp} {s : Shared} {m : List Addr} {S : Sto}
theorem readsAll_of {h : Heap} {k : Nat} (ih : ∀ {d : D} {v : V} {u : Value} {p : PyData}, RV X.K H m d v → RelV v u → toPD S k d = some p → ∃ as, Reads h u p as ∧ (noList p = true → sysModules ∉ as)) :
    ∀ {ds : List D} {vs : List V} {us : List Value} {ps : List PyData}, RVs X.K H m ds vs → Vals vs us → optAll (toPD S k) ds = some ps → ∃ as, ReadsAll h us ps as ∧ (noListAll ps = true → sysModules ∉ as)
  | _, _, _, _, .nil, .nil, h => by
    simp [optAll] at h
    subst h
    exact ⟨_, .nil, fun _ => by simp⟩
  | d :: ds, _, _, _, .cons r t, .cons ru tu, h => by
    unfold optAll at h
    cases e1 : toPD S k d with
    | none => simp [e1] at h
    | some p =>
      cases e2 : optAll (toPD S k) ds with
      | none => simp [e1, e2] at h
      | some ps =>
        simp [e1, e2] at h
        subst h
        obtain ⟨as, h1, h2⟩ := ih r ru e1
        obtain ⟨bs, h3, h4⟩ := readsAll_of ih t tu e2
        refine ⟨_, .cons h1 h3, fun hd => ?_⟩
        simp only [noListAll, Bool.and_eq_true] at hd
        simp only [List.mem_append, not_or]
        exact ⟨h2 hd.1, h4 hd.2⟩
theorem reads_of (I : Inv X pins σ H s) (rs : RS X.K H m S) : ∀ {k : Nat} {d : D} {v : V} {u : Value} {p : PyData}, RV X.K H m d v → RelV v u → toPD S k d = some p → ∃ as, Reads s.heap u p as ∧ (noList p = true → sysModules ∉ as)
  | 0, _, _, _, _, _, _, h => by simp [toPD] at h
  | k + 1, d, v, u, p, r, ru, h => by
    have lcase : ∀ {a : Addr} {vs : List V} {xs : List D} {ps : List PyData}, u = .ref a → SqL X.K H a vs → RVs X.K H m xs vs → optAll (toPD S k) xs = some ps → ∃ as, Reads s.heap u (.list ps) as ∧ (noList (.list ps) = true → sysModules ∉ as) := by
      intro a vs xs ps eu h1 h2 h3
      subst eu
      obtain ⟨its, rv, ⟨o, n, ho, hc, _, hd⟩, _⟩ := I.list h1
      obtain ⟨as, q1, q2⟩ := readsAll_of (fun r ru e => reads_of I rs r ru e) h2 rv h3
      exact ⟨_, .list ho hc hd q1, fun z => by simp [noList] at z⟩
    cases r with
    | non => simp [toPD] at h; subst h; cases ru; exact ⟨_, .none, fun _ => by simp⟩
    | bl b => simp [toPD] at h; subst h; cases ru; exact ⟨_, .bool b, fun _ => by simp⟩
    | int b => simp [toPD] at h; subst h; obtain ⟨t, rfl⟩ := ru; exact ⟨_, .int b t, fun _ => by simp⟩
    | str b => simp [toPD] at h; subst h; obtain ⟨t, rfl⟩ := ru; exact ⟨_, .str b t, fun _ => by simp⟩
    | tup h1 h2 =>
      simp only [toPD, Option.map_eq_some_iff] at h
      obtain ⟨ps, h3, rfl⟩ := h
      cases ru
      obtain ⟨its, rv, ⟨o, ho, hc, n, hd⟩, _⟩ := I.tuple h1
      obtain ⟨as, q1, q2⟩ := readsAll_of (fun r ru e => reads_of I rs r ru e) h2 rv h3
      exact ⟨_, .tuple ho hc hd q1, fun z => q2 (by simpa [noList] using z)⟩
    | fl h1 h2 =>
      simp only [toPD, Option.map_eq_some_iff] at h
      obtain ⟨ps, h3, rfl⟩ := h
      exact lcase ru h1.sq h2 h3
    | emp h1 =>
      simp [toPD] at h
      subst h
      cases ru
      obtain ⟨_, hs, vs, kv, o, es, ep, ho, hx, hd, hk, hp, _⟩ := I.hok _ _ h1
      cases kv
      have he : es.toList = [] := by
        generalize es.toList = l at hp
        cases hp
        rfl
      refine ⟨_, .dict (kvs := []) ho hx.1 hd (by rw [he]; exact .nil) (by rw [he]; exact .nil), fun _ => ?_⟩
      simp only [List.append_nil, List.mem_singleton]
      intro z
      rw [← z] at hs
      simp at hs
    | ref h1 =>
      rename_i n a
      cases e : S[n]? with
      | none => simp [toPD, e] at h
      | some c =>
        cases c with
        | lst xs =>
          simp only [toPD, e, Option.map_eq_some_iff] at h
          obtain ⟨ps, h3, rfl⟩ := h
          obtain ⟨a', vs, e1, q2, q3, q4⟩ := rs.list e (.ref h1)
          cases e1
          exact lcase ru (SqL.of q3) q4 h3
        | _ => simp [toPD, e] at h
end
def gEqD (d e : D) (S : Sto) : Res := match toPD S 60 d, toPD S 60 e with
  | some p, some q => if SeqAt.shaped p && SeqAt.shaped q then .ok (.bl (PyData.eqv p q)) S else .bad
  | _, _ => .bad
def gNeD (d e : D) (S : Sto) : Res := match toPD S 60 d, toPD S 60 e with
  | some p, some q => if SeqAt.shaped p && SeqAt.shaped q then .ok (.bl (!PyData.eqv p q)) S else .bad
  | _, _ => .bad
/-- two texts by themselves, all else by its data -/
def gEq (d e : D) (S : Sto) : Res := match d, e with
  | .str x, .str y => .ok (.bl (x == y)) S
  | _, _ => gEqD d e S
def gNe (d e : D) (S : Sto) : Res := match d, e with
  | .str x, .str y => .ok (.bl (!(x == y))) S
  | _, _ => gNeD d e S
section
variable {X : Cx}
theorem o_eqD (hu : X.A.units + 64 < cLine) : O2 X (compareOp .Eq) gEqD := by
  intro W pins s σ H m S d e x y v u Q I rs rd re rx ry p
  unfold gEqD at p
  cases e1 : toPD S 60 d with
  | none => simp [e1] at p; exact p.elim
  | some a =>
    cases e2 : toPD S 60 e with
    | none => simp [e1, e2] at p; exact p.elim
    | some b =>
      simp only [e1, e2] at p
      by_cases hz : (SeqAt.shaped a && SeqAt.shaped b) = true
      · rw [if_pos hz] at p
        obtain ⟨z1, z2⟩ := Bool.and_eq_true_iff.mp hz
        obtain ⟨as, r1, _⟩ := reads_of I rs rd rx e1
        obtain ⟨bs, r2, _⟩ := reads_of I rs re ry e2
        exact SeqAt.compareEq_shaped r1 r2 z1 z2 hu ⟨.bl _, H, I, rfl, p H m _ Le.refl rs (.bl _)⟩
      · rw [if_neg hz] at p; exact p.elim
theorem o_neD (hu : X.A.units + 64 < cLine) : O2 X (compareOp .NotEq) gNeD := by
  intro W pins s σ H m S d e x y v u Q I rs rd re rx ry p
  unfold gNeD at p
  cases e1 : toPD S 60 d with
  | none => simp [e1] at p; exact p.elim
  | some a =>
    cases e2 : toPD S 60 e with
    | none => simp [e1, e2] at p; exact p.elim
    | some b =>
      simp only [e1, e2] at p
      by_cases hz : (SeqAt.shaped a && SeqAt.shaped b) = true
      · rw [if_pos hz] at p
        obtain ⟨z1, z2⟩ := Bool.and_eq_true_iff.mp hz
        obtain ⟨as, r1, _⟩ := reads_of I rs rd rx e1
        obtain ⟨bs, r2, _⟩ := reads_of I rs re ry e2
        exact SeqAt.compareNe_shaped r1 r2 z1 z2 hu ⟨.bl _, H, I, rfl, p H m _ Le.refl rs (.bl _)⟩
      · rw [if_neg hz] at p; exact p.elim
theorem o_eq (hu : X.A.units + 64 < cLine) : O2 X (compareOp .Eq) gEq := by
  intro W pins s σ H m S d e x y v u Q I rs rd re rx ry p
  have other : gEq d e S = gEqD d e S → _ := fun h => o_eqD hu W pins s σ H m S d e x y v u Q I rs rd re rx ry (h ▸ p)
  cases rd with
  | str z =>
    cases re with
    | str z2 =>
      have e : (z == z2) = decide (V.str z = V.str z2) := by
        rw [Bool.eq_iff_iff]
        simp
      exact op_eq pins s σ H _ _ v u Q I rx ry ⟨rfl, e ▸ p H m _ Le.refl rs (.bl _)⟩
    | _ => exact other rfl
  | _ => exact other rfl
theorem o_ne (hu : X.A.units + 64 < cLine) : O2 X (compareOp .NotEq) gNe := by
  intro W pins s σ H m S d e x y v u Q I rs rd re rx ry p
  have other : gNe d e S = gNeD d e S → _ := fun h => o_neD hu W pins s σ H m S d e x y v u Q I rs rd re rx ry (h ▸ p)
  cases rd with
  | str z =>
    cases re with
    | str z2 =>
      have e : (z == z2) = decide (V.str z = V.str z2) := by
        rw [Bool.eq_iff_iff]
        simp
      exact op_ne pins s σ H _ _ v u Q I rx ry ⟨rfl, e ▸ p H m _ Le.refl rs (.bl _)⟩
    | _ => exact other rfl
  | _ => exact other rfl
end
end Z
namespace Z
open PySem PySem.Spec PyProof.Rows L2
open Builtin.Str (occurrences)

/-! ## in, is None -/
def eqF : D → D → Option Bool
  | .non, .non => some true
  | .bl a, .bl b => some (a == b)
  | .bl a, .int b => some ((if a then 1 else 0) == b)
  | .int a, .bl b => some (a == (if b then 1 else 0))
  | .int a, .int b => some (a == b)
  | .str a, .str b => some (a == b)
  | .non, .bl _ | .non, .int _ | .non, .str _ | .bl _, .non | .int _, .non | .str _, .non => some false
  | .bl _, .str _ | .int _, .str _ | .str _, .bl _ | .str _, .int _ => some false
  | _, _ => none
def anyF (x : D) : List D → Option Bool
  | [] => some false
  | y :: r => match eqF y x, anyF x r with
    | some a, some b => some (a || b)
    | _, _ => none
def gIn (neg : Bool) (d e : D) (S : Sto) : Res := match e with
  | .str z => (match d with
    | .str w => (match w.cps.toList with
      | [c] => .ok (.bl (if neg then !decide (c ∈ z.cps.toList) else decide (c ∈ z.cps.toList))) S
      | _ => .bad)
    | _ => .bad)
  | _ => (match seqOf S e with
    | some ys => (match eqF d d, anyF d ys with
      | some _, some b => .ok (.bl (if neg then !b else b)) S
      | _, _ => .bad)
    | none => .bad)
def gIsN (neg : Bool) (d e : D) (S : Sto) : Res := match e with
  | .non => .ok (.bl (match d with | .non => !neg | _ => neg)) S
  | _ => .bad
section
variable {K : PySem.W.Frag} {H : Hp} {m : List Addr} {S : Sto}
theorem eqF_flat {x y : D} {v u : V} {b : Bool} (rx : RV K H m x v) (ry : RV K H m y u) (h : eqF y x = some b) : flatV v = true ∧ flatV u = true ∧ eqV u v = b := by
  cases ry <;> cases rx <;> first
    | (simp [eqF] at h; done)
    | (simp only [eqF, Option.some.injEq] at h; subst h; exact ⟨rfl, rfl, rfl⟩)
    | (simp only [eqF, Option.some.injEq] at h; subst h; exact ⟨rfl, rfl, by simp [eqV]⟩)
theorem anyF_flat {x : D} {v : V} (rx : RV K H m x v) : ∀ {ys : List D} {us : List V} {b : Bool}, RVs K H m ys us → anyF x ys = some b → us.all flatV = true ∧ inV v us = b
  | _, _, _, .nil, h => by simp [anyF] at h; subst h; exact ⟨rfl, rfl⟩
  | y :: ys, _, b, .cons r t, h => by
    unfold anyF at h
    cases e1 : eqF y x with
    | none => simp [e1] at h
    | some a =>
      cases e2 : anyF x ys with
      | none => simp [e1, e2] at h
      | some c =>
        simp only [e1, e2, Option.some.injEq] at h
        obtain ⟨_, h2, h3⟩ := eqF_flat rx r e1
        obtain ⟨h4, h5⟩ := anyF_flat rx t e2
        refine ⟨by rw [List.all_cons, h2, h4]; rfl, ?_⟩
        unfold inV at h5 ⊢
        rw [List.any_cons, h3, h5]
        exact h
end
section
variable {X : Cx}
theorem o_inG {op : CmpOp} {neg : Bool} (h1 : OpR X (compareOp op) (rIn X.K neg)) (h2 : OpR X (compareOp op) (fun x y H Q => ∃ (c : Nat) (z : Str), x = .str ⟨#[c]⟩ ∧ y = .str z ∧ Q (.bl (if neg then !decide (c ∈ z.cps.toList) else decide (c ∈ z.cps.toList))) H)) : O2 X (compareOp op) (gIn neg) := by
  intro W pins s σ H m S d e x y v u Q I rs rd re rx ry p
  have seqCase : ∀ ys, seqOf S e = some ys → PV X.K W H m σ (match eqF d d, anyF d ys with | some _, some b => .ok (.bl (if neg then !b else b)) S | _, _ => .bad) Q → wpAny (model X.prog X.w) X.A (compareOp op v u) (EP X pins σ Q) X.xe s := by
    intro ys e1 p
    obtain ⟨a, vs, rfl, hs, hv⟩ := seq_at rs re e1
    cases e2 : eqF d d with
    | none => simp [e2] at p; exact p.elim
    | some b0 =>
      cases e3 : anyF d ys with
      | none => simp [e2, e3] at p; exact p.elim
      | some b =>
        simp only [e2, e3] at p
        obtain ⟨f1, _, _⟩ := eqF_flat rd rd e2
        obtain ⟨f2, f3⟩ := anyF_flat rd hv e3
        refine h1 pins s σ H _ _ v u Q I rx ry ⟨a, vs, rfl, hs, f1, f2, ?_⟩
        rw [f3]
        exact p H m _ Le.refl rs (.bl _)
  cases re with
  | str z =>
    cases rd with
    | str w =>
      obtain ⟨⟨l⟩⟩ := w
      cases l with
      | nil => exact p.elim
      | cons c r =>
        cases r with
        | nil => exact h2 pins s σ H _ _ v u Q I rx ry ⟨c, z, rfl, rfl, p H m _ Le.refl rs (.bl _)⟩
        | cons c2 r2 => exact p.elim
    | _ => exact p.elim
  | tup h3 h4 => exact seqCase _ rfl p
  | fl h3 h4 => exact seqCase _ rfl p
  | ref h3 =>
    rename_i n a
    cases e1 : seqOf S (.ref n) with
    | none =>
      have p' : PV X.K W H m σ (match seqOf S (.ref n) with | some ys => (match eqF d d, anyF d ys with | some _, some b => .ok (.bl (if neg then !b else b)) S | _, _ => .bad) | none => .bad) Q := p
      rw [e1] at p'
      exact p'.elim
    | some ys =>
      have p' : PV X.K W H m σ (match seqOf S (.ref n) with | some ys => (match eqF d d, anyF d ys with | some _, some b => .ok (.bl (if neg then !b else b)) S | _, _ => .bad) | none => .bad) Q := p
      rw [e1] at p'
      exact seqCase ys e1 p'
  | _ => exact p.elim
theorem o_in : O2 X (compareOp .In) (gIn false) := o_inG op_in_seq op_in_sign
theorem o_notin : O2 X (compareOp .NotIn) (gIn true) := o_inG op_notIn_seq op_notIn_sign
theorem o_is : O2 X (compareOp .Is) (gIsN false) := by
  intro W pins s σ H m S d e x y v u Q I rs rd re rx ry p
  cases re with
  | non =>
    refine op_isN pins s σ H _ _ v u Q I rx ry ⟨rfl, ?_⟩
    cases rd <;> exact p H m _ Le.refl rs (.bl _)
  | _ => exact p.elim
theorem o_isnot : O2 X (compareOp .IsNot) (gIsN true) := by
  intro W pins s σ H m S d e x y v u Q I rs rd re rx ry p
  cases re with
  | non =>
    refine op_notN pins s σ H _ _ v u Q I rx ry ⟨rfl, ?_⟩
    cases rd <;> exact p H m _ Le.refl rs (.bl _)
  | _ => exact p.elim
end

/-! ## items and slices -/
theorem RVs.atI {K H m} {ds : List D} {vs : List V} {i : Int} {d : D} (h : RVs K H m ds vs) (e : L2.atI ds i = some d) : ∃ v, L2.atI vs i = some v ∧ RV K H m d v := by
  unfold L2.atI at e ⊢
  rw [← h.len]
  cases q : ixN ds.length i with
  | none => rw [q] at e; cases e
  | some j =>
    rw [q] at e
    exact h.at e
def gIx (d e : D) (S : Sto) : Res := match e with
  | .int i => (match d with
    | .str z => if z.length ≤ sizeLine then (match L2.atI z.cps.toList i with
      | some c => .ok (.str ⟨#[c]⟩) S
      | none => .bad) else .bad
    | _ => (match seqOf S d with
      | some xs => (match L2.atI xs i with
        | some y => .ok y S
        | none => .bad)
      | none => .bad))
  | _ => .bad
def cutL {α : Type} (xs : List α) (lo hi : Option Int) : List α := (xs.drop (HT.sIx xs.length 0 lo)).take (HT.sIx xs.length xs.length hi - HT.sIx xs.length 0 lo)
theorem cutL_V (xs : List V) (lo hi : Option Int) : cutL xs lo hi = cutV xs lo hi := rfl
theorem RVs.cut {K H m} {ds : List D} {vs : List V} (h : RVs K H m ds vs) (lo hi : Option Int) : RVs K H m (cutL ds lo hi) (cutV vs lo hi) := by
  unfold cutL cutV
  rw [h.len]
  exact (h.drop _).take _
def vInt (f : FE) : FE := fun E S => (f E S).bind fun d S1 => match d with
  | .int _ => .ok d S1
  | _ => .bad
def oPart : D → Option (Option Int)
  | .non => some none
  | .int i => some (some i)
  | _ => none
def gSl (d : D) (lo hi : Option Int) (S : Sto) : Res := match d with
  | .str z => if z.length ≤ sizeLine then .ok (.str (cutS z lo hi)) S else .bad
  | .tup xs => .ok (.tup (cutL xs lo hi)) S
  | _ => (match listOf S d with
    | some xs => .ok (.ref S.length) (S ++ [.lst (cutL xs lo hi)])
    | none => .bad)
/-- parts are given as None or numbers -/
def vSl (f lo hi : FE) : FE := fun E S => (f E S).bind fun x S1 => (lo E S1).bind fun a S2 => match oPart a with
  | none => .bad
  | some i => (hi E S2).bind fun b S3 => match oPart b with
    | none => .bad
    | some j => gSl x i j S3
def tO (K : PySem.W.Frag) (W : WX) (f : FE) : TO := fun σ H Q => tE K W f σ H fun v H1 => match v with
  | .non => Q none H1
  | .int i => Q (some i) H1
  | _ => False
section
variable {X : Cx} {W : WX} {pos p2 : Pos}
theorem o_ix : IxR X (fun x y H Q => ∃ W pins s σ m S d e, Inv X pins σ H s ∧ RS X.K H m S ∧ RV X.K H m d x ∧ RV X.K H m e y ∧ PV X.K W H m σ (gIx d e S) Q) := by
  intro value slice pins s σ H x y v u Q I rx ry ⟨W, pins', s', σ', m, S, d, e, I', rs, rd, re, p⟩ hs
  have seqCase : ∀ i xs, y = .int i → seqOf S d = some xs → PV X.K W H m σ' (match L2.atI xs i with | some y => .ok y S | none => .bad) Q → wpAny (model X.prog X.w) X.A (subscriptTail value slice v u) (EP X pins σ Q) X.xe s := by
    intro i xs ey e1 p
    subst ey
    obtain ⟨a, vs, rfl, hs', hv⟩ := seq_at rs rd e1
    cases e2 : L2.atI xs i with
    | none => rw [e2] at p; exact p.elim
    | some z =>
      rw [e2] at p
      obtain ⟨w', h1, h2⟩ := hv.atI e2
      rcases hs' with hs' | hs'
      · exact ix_list value slice pins s σ H _ _ v u Q I rx ry ⟨a, vs, i, w', rfl, rfl, hs', h1, p H m _ Le.refl rs h2⟩ hs
      · exact ix_tup value slice pins s σ H _ _ v u Q I rx ry ⟨a, vs, i, w', rfl, rfl, hs', h1, p H m _ Le.refl rs h2⟩ hs
  cases re with
  | int i =>
    cases rd with
    | str z =>
      have p' : PV X.K W H m σ' (if z.length ≤ sizeLine then (match L2.atI z.cps.toList i with | some c => .ok (.str ⟨#[c]⟩) S | none => .bad) else .bad) Q := p
      by_cases hz : z.length ≤ sizeLine
      · rw [if_pos hz] at p'
        cases e2 : L2.atI z.cps.toList i with
        | none => rw [e2] at p'; exact p'.elim
        | some c =>
          rw [e2] at p'
          exact ix_str value slice pins s σ H _ _ v u Q I rx ry ⟨z, i, c, rfl, rfl, hz, e2, p' H m _ Le.refl rs (.str _)⟩ hs
      · rw [if_neg hz] at p'; exact p'.elim
    | tup h1 h2 => exact seqCase i _ rfl rfl p
    | fl h1 h2 => exact seqCase i _ rfl rfl p
    | ref h1 =>
      rename_i n a
      have p' : PV X.K W H m σ' (match seqOf S (.ref n) with | some xs => (match L2.atI xs i with | some y => .ok y S | none => .bad) | none => .bad) Q := p
      cases e1 : seqOf S (.ref n) with
      | none => rw [e1] at p'; exact p'.elim
      | some xs => rw [e1] at p'; exact seqCase i xs rfl e1 p'
    | _ => exact p.elim
  | _ => exact p.elim
theorem e_ix {a b : Expr} {f1 f2 : FE} (ha : PE X a (tE X.K W f1)) (hb : PE X b (tE X.K W f2)) (hs : PlainIx b) : PE X (.Subscript a b pos) (tE X.K W (vBin gIx f1 f2)) := by
  refine ⟨fun pins s σ H Q I h => ?_⟩
  refine Subscript_ (binT ha hb I (tE.two h) (f := fun v u => subscriptTail a b v u) fun v u s2 x y H2 I2 rx ry ⟨m, S, d, e, rs, rd, re, p⟩ => ?_)
  exact o_ix a b pins s2 σ H2 x y v u Q I2 rx ry ⟨W, pins, s2, σ, m, S, d, e, I2, rs, rd, re, p⟩ (hs v u)
theorem p_none : PO X none (tO X.K W (vC .non)) := ⟨fun pins s σ H Q I ⟨m, E, S, re, rs, p⟩ => po_none.run pins s σ H Q I (p H m _ Le.refl rs .non)⟩
theorem p_some {e : Expr} {f : FE} (he : PE X e (tE X.K W f)) : PO X (some e) (tO X.K W (vInt f)) := by
  refine ⟨fun pins s σ H Q I h => (po_some he).run pins s σ H Q I ?_⟩
  refine (tE.then (k := fun _ d S1 => match d with | .int _ => .ok d S1 | _ => .bad) h).mono fun v H1 ⟨m, E, S, d, re, rs, rv, p⟩ => ?_
  cases rv with
  | int i => exact ⟨i, rfl, p H1 m _ Le.refl rs (.int i)⟩
  | _ => exact p.elim
theorem sl_all : SlR X (fun x lo hi H Q => ∃ W σ m S d, RS X.K H m S ∧ RV X.K H m d x ∧ PV X.K W H m σ (gSl d lo hi S) Q) := by
  intro pins s σ H x v vl vu lo hi sl Q I rx hs pl pu ⟨W, σ', m, S, d, rs, rd, p⟩
  have listCase : ∀ xs, listOf S d = some xs → PV X.K W H m σ' (.ok (.ref S.length) (S ++ [.lst (cutL xs lo hi)])) Q → ∃ T id, typeLookup (.type T) "__getitem__" = pure (some (.builtin id)) ∧ s.TypeIs v T ∧ wpAny (model X.prog X.w) X.A (getItem v (.ref sl)) (EP X pins σ Q) X.xe s := by
    intro xs e1 p
    obtain ⟨a, vs, rfl, h1, h2⟩ := list_at rs rd e1
    refine sl_list pins s σ H _ v vl vu lo hi sl Q I rx hs pl pu ⟨a, vs, rfl, h1, fun q hq => ?_⟩
    obtain ⟨l1, r1⟩ := rs.alloc hq (h2.cut lo hi)
    exact p _ _ _ l1 r1 (.ref (by rw [← rs.len]; simp))
  cases rd with
  | str z =>
    have p' : PV X.K W H m σ' (if z.length ≤ sizeLine then .ok (.str (cutS z lo hi)) S else .bad) Q := p
    by_cases hz : z.length ≤ sizeLine
    · rw [if_pos hz] at p'
      exact sl_str pins s σ H _ v vl vu lo hi sl Q I rx hs pl pu ⟨z, rfl, hz, p' H m _ Le.refl rs (.str _)⟩
    · rw [if_neg hz] at p'; exact p'.elim
  | tup h1 h2 =>
    rename_i a xs vs
    refine sl_tupA pins s σ H _ v vl vu lo hi sl Q I rx hs pl pu ⟨a, vs, rfl, h1, fun hw => ?_, fun _ q hq => ?_⟩
    · have e : cutL xs lo hi = xs := by
        unfold cutL
        rw [h2.len, hw.1, hw.2, ← h2.len]
        simp
      have p' : PV X.K W H m σ' (.ok (.tup (cutL xs lo hi)) S) Q := p
      rw [e] at p'
      exact p' H m _ Le.refl rs (.tup h1 h2)
    · have l1 : Le X.K H m (upd H q (.tup (cutV vs lo hi))) m := Le.new hq
      exact p _ m _ l1 (rs.side hq) (.tup (SqT.of upd_same) ((h2.cut lo hi).up l1))
  | fl h1 h2 => exact listCase _ rfl p
  | ref h1 =>
    rename_i n a
    have p' : PV X.K W H m σ' (match listOf S (.ref n) with | some xs => .ok (.ref S.length) (S ++ [.lst (cutL xs lo hi)]) | none => .bad) Q := p
    cases e1 : listOf S (.ref n) with
    | none => rw [e1] at p'; exact p'.elim
    | some xs => rw [e1] at p'; exact listCase xs e1 p'
  | _ => exact p.elim
theorem e_sl {e : Expr} {lo hi : Option Expr} {f l u : FE} (he : PE X e (tE X.K W f)) (hl : PO X lo (tO X.K W l)) (hu : PO X hi (tO X.K W u)) : PE X (.Subscript e (.Slice lo hi none p2) pos) (tE X.K W (vSl f l u)) := by
  refine ⟨fun pins s σ H Q I h => (pe_slice sl_all he hl hu).run pins s σ H Q I ?_⟩
  refine (tE.then (k := fun E x S1 => (l E S1).bind fun a S2 => match oPart a with | none => .bad | some i => (u E S2).bind fun b S3 => match oPart b with | none => .bad | some j => gSl x i j S3) h).mono fun v H1 ⟨m, E, S, d, re, rs, rv, p⟩ => ?_
  show tE X.K W l σ H1 _
  refine ⟨m, E, S, re, rs, ?_⟩
  cases e1 : l E S with
  | exc c fs S1 => rw [e1] at p; exact p
  | bad => rw [e1] at p; exact p
  | ok a S1 =>
    rw [e1] at p
    intro H2 m2 va l2 rs2 ra
    have key : ∀ i, PV X.K W H2 m2 σ ((u E S1).bind fun b S3 => match oPart b with | none => .bad | some j => gSl d i j S3) Q →
        tO X.K W u σ H2 fun j H3 => ∃ W σ m S d, RS X.K H3 m S ∧ RV X.K H3 m d v ∧ PV X.K W H3 m σ (gSl d i j S) Q := by
      intro i p2
      refine ⟨m2, E, S1, re.up l2, rs2, ?_⟩
      cases e2 : u E S1 with
      | exc c fs S2 => rw [e2] at p2; exact p2
      | bad => rw [e2] at p2; exact p2
      | ok b S2 =>
        rw [e2] at p2
        intro H3 m3 vb l3 rs3 rb
        have p3 := PV.re l3 p2
        have rd3 : RV X.K H3 m3 d v := (rv.up l2).up l3
        cases rb with
        | non => exact ⟨W, σ, m3, S2, d, rs3, rd3, p3⟩
        | int j => exact ⟨W, σ, m3, S2, d, rs3, rd3, p3⟩
        | _ => exact p3.elim
    have p2 := PV.re l2 p
    cases ra with
    | non => exact key none p2
    | int i => exact key (some i) p2
    | _ => exact p2.elim
end
end Z
namespace Z
open PySem PySem.Spec PyProof.Rows L2

/-! ## builtins called -/
def gLen (ds : List D) (S : Sto) : Res := match ds with
  | [.str z] => if z.length ≤ sizeLine then .ok (.int z.length) S else .bad
  | [d] => (match seqOf S d with
    | some xs => .ok (.int xs.length) S
    | none => .bad)
  | _ => .bad
def gAbs (ds : List D) (S : Sto) : Res := match ds with
  | [.int i] => .ok (.int (if i < 0 then -i else i)) S
  | _ => .bad
def gInt (ds : List D) (S : Sto) : Res := match ds with
  | [.int i] => .ok (.int i) S
  | [.bl k] => .ok (.int (if k then 1 else 0)) S
  | [.str a] => (match PySem.intText? a with
    | some n => if a.length ≤ 640 then .ok (.int n) S else .bad
    | none => .bad)
  | _ => .bad
def gStr (ds : List D) (S : Sto) : Res := match ds with
  | [.int i] => if i.natAbs.log2 < 1920 then .ok (.str (toString i)) S else .bad
  | [.str a] => .ok (.str a) S
  | _ => .bad
def gAll (ds : List D) (S : Sto) : Res := match ds with
  | [d] => (match listOf S d with
    | some xs => (match blsOf xs with
      | some bs => .ok (.bl (bs.all id)) S
      | none => .bad)
    | none => .bad)
  | _ => .bad
def gAny (ds : List D) (S : Sto) : Res := match ds with
  | [d] => (match listOf S d with
    | some xs => (match blsOf xs with
      | some bs => .ok (.bl (bs.any id)) S
      | none => .bad)
    | none => .bad)
  | _ => .bad
def gSum (ds : List D) (S : Sto) : Res := match ds with
  | [d] => (match listOf S d with
    | some xs => (match intsOf xs with
      | some bs => .ok (.int bs.sum) S
      | none => .bad)
    | none => .bad)
  | _ => .bad
def gMax2 (ds : List D) (S : Sto) : Res := match ds with
  | [.int i, .int j] => .ok (.int (if j > i then j else i)) S
  | _ => .bad
def gMin2 (ds : List D) (S : Sto) : Res := match ds with
  | [.int i, .int j] => .ok (.int (if j < i then j else i)) S
  | _ => .bad
def gTuple (ds : List D) (S : Sto) : Res := match ds with
  | [d] => (match seqOf S d with
    | some xs => .ok (.tup xs) S
    | none => .bad)
  | _ => .bad
def gList (ds : List D) (S : Sto) : Res := match ds with
  | [d] => (match seqOf S d with
    | some xs => .ok (.ref S.length) (S ++ [.lst xs])
    | none => .bad)
  | _ => .bad
def gGcd (ds : List D) (S : Sto) : Res := match ds with
  | [.int a, .int b] => .ok (.int ((Nat.gcd a.natAbs b.natAbs : Nat) : Int)) S
  | _ => .bad
def gRepr (ds : List D) (S : Sto) : Res := match ds with
  | [d] => (match toPD S 40 d with
    | some p => if p.showable && (!p.hasDict || noList p) && decide (p.depth ≤ 60) && decide (p.shown.length ≤ sizeLine) then .ok (.str p.shown) S else .bad
    | none => .bad)
  | _ => .bad
section
variable {X : Cx} {W : WX}
/-- one argument -/
theorem oc1 {f : Value} {g : List D → Sto → Res} (h0 : ∀ S ds, (∀ d, ds ≠ [d]) → g ds S = .bad)
    (h : ∀ (W : WX) (pins : List (Addr × Obj)) (s : Shared) (σ : L2.St) (H : Hp) (m : List Addr) (S : Sto) (d : D) (x : V) (us : List Value) (Q : VK), Inv X pins σ H s → RS X.K H m S → RV X.K H m d x → Vals [x] us → PV X.K W H m σ (g [d] S) Q → wpAny (model X.prog X.w) X.A (call f us) (EP X pins σ Q) X.xe s) : OC X f g := by
  intro W pins s σ H m S ds xs us Q I rs rd r p
  by_cases e : ∃ d, ds = [d]
  · obtain ⟨d, rfl⟩ := e
    cases rd with
    | cons r1 r2 =>
      cases r2
      exact h W pins s σ H m S d _ us Q I rs r1 r p
  · rw [h0 S ds (fun d z => e ⟨d, z⟩)] at p
    exact p.elim
theorem c_len : OC X (.builtin "len") gLen := by
  refine oc1 (fun S ds h => ?_) fun W pins s σ H m S d x us Q I rs rd r p => ?_
  · unfold gLen
    split
    · exact absurd rfl (h _)
    · exact absurd rfl (h _)
    · rfl
  · have seqCase : PV X.K W H m σ (match seqOf S d with | some xs => .ok (.int xs.length) S | none => .bad) Q → wpAny (model X.prog X.w) X.A (call (.builtin "len") us) (EP X pins σ Q) X.xe s := by
      intro p
      cases e1 : seqOf S d with
      | none => rw [e1] at p; exact p.elim
      | some xs =>
        rw [e1] at p
        obtain ⟨a, vs, rfl, h1, h2⟩ := seq_at rs rd e1
        refine call_len_seq pins s σ H _ us Q I r ⟨a, vs, rfl, h1, ?_⟩
        rw [← h2.len]
        exact p H m _ Le.refl rs (.int _)
    cases rd with
    | str z =>
      have p' : PV X.K W H m σ (if z.length ≤ sizeLine then .ok (.int z.length) S else .bad) Q := p
      by_cases hz : z.length ≤ sizeLine
      · rw [if_pos hz] at p'
        exact call_len_str pins s σ H _ us Q I r ⟨z, rfl, hz, p' H m _ Le.refl rs (.int _)⟩
      · rw [if_neg hz] at p'; exact p'.elim
    | _ => exact seqCase p
theorem c_abs : OC X (.builtin "abs") gAbs := by
  refine oc1 (fun S ds h => ?_) fun W pins s σ H m S d x us Q I rs rd r p => ?_
  · unfold gAbs
    split
    · exact absurd rfl (h _)
    · rfl
  · cases rd with
    | int i => exact call_abs pins s σ H _ us Q I r ⟨i, rfl, p H m _ Le.refl rs (.int _)⟩
    | _ => exact p.elim
theorem c_int : OC X (.type "int") gInt := by
  refine oc1 (fun S ds h => ?_) fun W pins s σ H m S d x us Q I rs rd r p => ?_
  · unfold gInt
    split <;> first
      | exact absurd rfl (h _)
      | rfl
  · cases rd with
    | int i => exact call_int1 pins s σ H _ us Q I r (.inl ⟨i, rfl, p H m _ Le.refl rs (.int _)⟩)
    | bl i => exact call_int1 pins s σ H _ us Q I r (.inr ⟨i, rfl, p H m _ Le.refl rs (.int _)⟩)
    | str a =>
      have p' : PV X.K W H m σ (match PySem.intText? a with | some n => if a.length ≤ 640 then .ok (.int n) S else .bad | none => .bad) Q := p
      cases e : PySem.intText? a with
      | none => rw [e] at p'; exact p'.elim
      | some n =>
        rw [e] at p'
        by_cases hz : a.length ≤ 640
        · dsimp only at p'
          rw [if_pos hz] at p'
          exact call_int_str pins s σ H _ us Q I r ⟨a, n, rfl, e, hz, p' H m _ Le.refl rs (.int _)⟩
        · dsimp only at p'
          rw [if_neg hz] at p'; exact p'.elim
    | _ => exact p.elim
theorem c_str : OC X (.type "str") gStr := by
  refine oc1 (fun S ds h => ?_) fun W pins s σ H m S d x us Q I rs rd r p => ?_
  · unfold gStr
    split <;> first
      | exact absurd rfl (h _)
      | rfl
  · cases rd with
    | int i =>
      have p' : PV X.K W H m σ (if i.natAbs.log2 < 1920 then .ok (.str (toString i)) S else .bad) Q := p
      by_cases hz : i.natAbs.log2 < 1920
      · rw [if_pos hz] at p'
        exact call_str_int pins s σ H _ us Q I r ⟨i, rfl, hz, p' H m _ Le.refl rs (.str _)⟩
      · rw [if_neg hz] at p'; exact p'.elim
    | str a => exact SkE.call_str_str pins s σ H _ us Q I r ⟨a, rfl, p H m _ Le.refl rs (.str _)⟩
    | _ => exact p.elim
theorem c_all (hc : X.calm = true) : OC X (.builtin "all") gAll := by
  refine oc1 (fun S ds h => ?_) fun W pins s σ H m S d x us Q I rs rd r p => ?_
  · unfold gAll
    split <;> first
      | exact absurd rfl (h _)
      | rfl
  · have p' : PV X.K W H m σ (match listOf S d with | some xs => (match blsOf xs with | some bs => .ok (.bl (bs.all id)) S | none => .bad) | none => .bad) Q := p
    cases e1 : listOf S d with
    | none => rw [e1] at p'; exact p'.elim
    | some xs =>
      rw [e1] at p'
      dsimp only at p'
      cases e2 : blsOf xs with
      | none => rw [e2] at p'; exact p'.elim
      | some bs =>
        rw [e2] at p'
        obtain ⟨a, vs, rfl, h1, h2⟩ := list_at rs rd e1
        rw [blsOf_eq e2] at h2
        rw [h2.bls] at h1
        exact cr_all hc pins s σ H _ us Q I r ⟨a, bs, rfl, h1, p' H m _ Le.refl rs (.bl _)⟩
theorem c_any (hc : X.calm = true) : OC X (.builtin "any") gAny := by
  refine oc1 (fun S ds h => ?_) fun W pins s σ H m S d x us Q I rs rd r p => ?_
  · unfold gAny
    split <;> first
      | exact absurd rfl (h _)
      | rfl
  · have p' : PV X.K W H m σ (match listOf S d with | some xs => (match blsOf xs with | some bs => .ok (.bl (bs.any id)) S | none => .bad) | none => .bad) Q := p
    cases e1 : listOf S d with
    | none => rw [e1] at p'; exact p'.elim
    | some xs =>
      rw [e1] at p'
      dsimp only at p'
      cases e2 : blsOf xs with
      | none => rw [e2] at p'; exact p'.elim
      | some bs =>
        rw [e2] at p'
        obtain ⟨a, vs, rfl, h1, h2⟩ := list_at rs rd e1
        rw [blsOf_eq e2] at h2
        rw [h2.bls] at h1
        exact cr_any hc pins s σ H _ us Q I r ⟨a, bs, rfl, h1, p' H m _ Le.refl rs (.bl _)⟩
theorem c_sum (hc : X.calm = true) : OC X (.builtin "sum") gSum := by
  refine oc1 (fun S ds h => ?_) fun W pins s σ H m S d x us Q I rs rd r p => ?_
  · unfold gSum
    split <;> first
      | exact absurd rfl (h _)
      | rfl
  · have p' : PV X.K W H m σ (match listOf S d with | some xs => (match intsOf xs with | some bs => .ok (.int bs.sum) S | none => .bad) | none => .bad) Q := p
    cases e1 : listOf S d with
    | none => rw [e1] at p'; exact p'.elim
    | some xs =>
      rw [e1] at p'
      dsimp only at p'
      cases e2 : intsOf xs with
      | none => rw [e2] at p'; exact p'.elim
      | some bs =>
        rw [e2] at p'
        obtain ⟨a, vs, rfl, h1, h2⟩ := list_at rs rd e1
        rw [intsOf_eq e2] at h2
        rw [h2.ints] at h1
        exact cr_sum hc pins s σ H _ us Q I r ⟨a, bs, rfl, h1, p' H m _ Le.refl rs (.int _)⟩
theorem oc2I {f : Value} {g : List D → Sto → Res} {k : Int → Int → Int} (h0 : ∀ S ds, (∀ i j, ds ≠ [.int i, .int j]) → g ds S = .bad) (h1 : ∀ S i j, g [.int i, .int j] S = .ok (.int (k i j)) S)
    (h : CallR X f (fun xs H Q => ∃ i j, xs = [.int i, .int j] ∧ Q (.int (k i j)) H)) : OC X f g := by
  intro W pins s σ H m S ds xs us Q I rs rd r p
  by_cases e : ∃ i j, ds = [.int i, .int j]
  · obtain ⟨i, j, rfl⟩ := e
    cases rd with
    | cons r1 r2 =>
      cases r1
      cases r2 with
      | cons r1 r3 =>
        cases r1
        cases r3
        rw [h1] at p
        exact h pins s σ H _ us Q I r ⟨i, j, rfl, p H m _ Le.refl rs (.int _)⟩
  · rw [h0 S ds (fun i j z => e ⟨i, j, z⟩)] at p
    exact p.elim
theorem c_max2 (hc : X.calm = true) : OC X (.builtin "max") gMax2 := by
  refine oc2I (fun S ds h => ?_) (fun _ _ _ => rfl) (call_max2 hc)
  unfold gMax2
  split
  · exact absurd rfl (h _ _)
  · rfl
theorem c_min2 (hc : X.calm = true) : OC X (.builtin "min") gMin2 := by
  refine oc2I (fun S ds h => ?_) (fun _ _ _ => rfl) (call_min2 hc)
  unfold gMin2
  split
  · exact absurd rfl (h _ _)
  · rfl
theorem c_gcd : OC X (.builtin "math.gcd") gGcd := by
  refine oc2I (fun S ds h => ?_) (fun _ _ _ => rfl) (fun pins s σ H xs us Q I r h => cr_gcd pins s σ H xs us Q I r h)
  unfold gGcd
  split
  · exact absurd rfl (h _ _)
  · rfl
theorem c_tuple : OC X (.type "tuple") gTuple := by
  refine oc1 (fun S ds h => ?_) fun W pins s σ H m S d x us Q I rs rd r p => ?_
  · unfold gTuple
    split <;> first
      | exact absurd rfl (h _)
      | rfl
  · have listCase : ∀ xs, listOf S d = some xs → PV X.K W H m σ (.ok (.tup xs) S) Q → wpAny (model X.prog X.w) X.A (call (.type "tuple") us) (EP X pins σ Q) X.xe s := by
      intro xs e1 p
      obtain ⟨a, vs, rfl, h1, h2⟩ := list_at rs rd e1
      refine call_tuple_of pins s σ H _ us Q I r ⟨a, vs, rfl, .inl ⟨h1, fun q hq => ?_⟩⟩
      have l1 : Le X.K H m (upd H q (.tup vs)) m := Le.new hq
      exact p _ m _ l1 (rs.side hq) (.tup (SqT.of upd_same) (h2.up l1))
    cases rd with
    | tup h1 h2 => exact call_tuple_of pins s σ H _ us Q I r ⟨_, _, rfl, .inr ⟨h1, p H m _ Le.refl rs (.tup h1 h2)⟩⟩
    | fl h1 h2 => exact listCase _ rfl p
    | ref h1 =>
      rename_i n a
      have p' : PV X.K W H m σ (match seqOf S (.ref n) with | some xs => .ok (.tup xs) S | none => .bad) Q := p
      cases e1 : seqOf S (.ref n) with
      | none => rw [e1] at p'; exact p'.elim
      | some xs => rw [e1] at p'; exact listCase xs e1 p'
    | _ => exact p.elim
theorem c_list : OC X (.type "list") gList := by
  refine oc1 (fun S ds h => ?_) fun W pins s σ H m S d x us Q I rs rd r p => ?_
  · unfold gList
    split <;> first
      | exact absurd rfl (h _)
      | rfl
  · have p' : PV X.K W H m σ (match seqOf S d with | some xs => .ok (.ref S.length) (S ++ [.lst xs]) | none => .bad) Q := p
    cases e1 : seqOf S d with
    | none => rw [e1] at p'; exact p'.elim
    | some xs =>
      rw [e1] at p'
      obtain ⟨a, vs, rfl, h1, h2⟩ := seq_at rs rd e1
      refine call_list_of pins s σ H _ us Q I r ⟨a, vs, rfl, h1, fun q hq => ?_⟩
      obtain ⟨l1, r1⟩ := rs.alloc hq h2
      exact p' _ _ _ l1 r1 (.ref (by rw [← rs.len]; simp))
theorem c_repr (hg : X.A.guards = some []) (hu : X.A.units + 64 < cLine) : OC X (.builtin "repr") gRepr := by
  refine oc1 (fun S ds h => ?_) fun W pins s σ H m S d x us Q I rs rd r p => ?_
  · unfold gRepr
    split <;> first
      | exact absurd rfl (h _)
      | rfl
  · obtain ⟨u, rfl, ru⟩ := Vals.one r
    have gen : PV X.K W H m σ (match toPD S 40 d with | some p => if p.showable && (!p.hasDict || noList p) && decide (p.depth ≤ 60) && decide (p.shown.length ≤ sizeLine) then .ok (.str p.shown) S else .bad | none => .bad) Q →
        wpAny (model X.prog X.w) X.A (call (.builtin "repr") [u]) (EP X pins σ Q) X.xe s := by
      intro p'
      cases e1 : toPD S 40 d with
      | none => rw [e1] at p'; exact p'.elim
      | some pd =>
        rw [e1] at p'
        dsimp only at p'
        by_cases hz : (pd.showable && (!pd.hasDict || noList pd) && decide (pd.depth ≤ 60) && decide (pd.shown.length ≤ sizeLine)) = true
        · rw [if_pos hz] at p'
          simp only [Bool.and_eq_true, Bool.or_eq_true, Bool.not_eq_true', decide_eq_true_eq] at hz
          obtain ⟨⟨⟨z1, z2⟩, z3⟩, z4⟩ := hz
          have q := p' H m _ Le.refl rs (.str _)
          obtain ⟨as, hr, hn⟩ := reads_of I rs rd ru e1
          have hsm : pd.hasDict = true → sysModules ∉ as := fun h => by
            rcases z2 with z | z
            · rw [z] at h; cases h
            · exact hn z
          have key : ∀ a, u = .ref a → wpAny (model X.prog X.w) X.A (call (.builtin "repr") [u]) (EP X pins σ Q) X.xe s := by
            intro a ea
            subst ea
            refine repr_of_reads' hr z1 hsm hg (by omega) (fun _ _ e => e) (fun h' u' tk hk => ?_) z4
            exact ⟨.str pd.shown, H, I.kept (t' := tk) hk, ⟨_, rfl⟩, q⟩
          cases rd with
          | non => simp [toPD] at e1; subst e1; cases ru; exact PySem.P.repr_of_none ⟨.str _, H, I.tok _, ⟨_, rfl⟩, q⟩
          | bl b => simp [toPD] at e1; subst e1; cases ru; exact PySem.P.repr_of_bool ⟨.str _, H, I.tok _, ⟨_, rfl⟩, q⟩
          | int i => simp [toPD] at e1; subst e1; obtain ⟨t, rfl⟩ := ru; exact PySem.P.repr_of_int (by simpa [PyData.showable] using z1) ⟨.str _, H, I.tok _, ⟨_, rfl⟩, q⟩
          | str i => simp [toPD] at e1; subst e1; obtain ⟨t, rfl⟩ := ru; exact PySem.P.repr_of_str ⟨.str _, H, I.tok _, ⟨_, rfl⟩, q⟩ (by simpa [PyData.shown] using z4)
          | tup h1 h2 => exact key _ ru
          | fl h1 h2 => exact key _ ru
          | ref h1 => exact key _ ru
          | emp h1 => exact key _ ru
        · rw [if_neg hz] at p'; exact p'.elim
    exact gen p
end
end Z
namespace Z
open PySem PySem.Spec PyProof.Rows L2

/-! ## statements -/
def PQ (K : PySem.W.Frag) (W : WX) (H : Hp) (m : List Addr) (r : SRes) (D : Ends) : Prop := match r with
  | .nx E S => ∀ H' m' σ, Le K H m H' m' → RE K H' m' E σ → RS K H' m' S → D.nx σ H'
  | .brk E S => ∀ H' m' σ, Le K H m H' m' → RE K H' m' E σ → RS K H' m' S → D.bk σ H'
  | .cnt E S => ∀ H' m' σ, Le K H m H' m' → RE K H' m' E σ → RS K H' m' S → D.ct σ H'
  | .ret d S => ∀ H' m' v, Le K H m H' m' → RS K H' m' S → RV K H' m' d v → D.rt v H'
  | .exc c fs E S => ∀ H' m' σ cls dd, Le K H m H' m' → RE K H' m' E σ → RS K H' m' S → RX K H' m' c fs cls dd → W cls dd σ H'
  | .bad => False
theorem PQ.re {K W H m H1 m1} {r : SRes} {D : Ends} (l : Le K H m H1 m1) (h : PQ K W H m r D) : PQ K W H1 m1 r D := by
  cases r with
  | nx E S => exact fun H' m' σ l' => h H' m' σ (l.trans l')
  | brk E S => exact fun H' m' σ l' => h H' m' σ (l.trans l')
  | cnt E S => exact fun H' m' σ l' => h H' m' σ (l.trans l')
  | ret d S => exact fun H' m' v l' => h H' m' v (l.trans l')
  | exc c fs E S => exact fun H' m' σ cls dd l' => h H' m' σ cls dd (l.trans l')
  | bad => exact h
def tS (K : PySem.W.Frag) (W : WX) (f : FS) : TS := fun D σ H => ∃ m E S, RE K H m E σ ∧ RS K H m S ∧ PQ K W H m (f E S) D
def Res.s (r : Res) (E : Ev) (k : D → Sto → SRes) : SRes := match r with
  | .ok d S => k d S
  | .exc c fs S => .exc c fs E S
  | .bad => .bad
def ResB.s (r : ResB) (E : Ev) (k : Bool → Sto → SRes) : SRes := match r with
  | .ok d S => k d S
  | .exc c fs S => .exc c fs E S
  | .bad => .bad
def SRes.then (r : SRes) (k : FS) : SRes := match r with
  | .nx E S => k E S
  | r => r
@[simp] theorem Res.s_ok {d S E} {k : D → Sto → SRes} : (Res.ok d S).s E k = k d S := rfl
@[simp] theorem Res.s_exc {c fs S E} {k : D → Sto → SRes} : (Res.exc c fs S).s E k = .exc c fs E S := rfl
@[simp] theorem Res.s_bad {E} {k : D → Sto → SRes} : Res.bad.s E k = .bad := rfl
@[simp] theorem ResB.s_ok {d S E} {k : Bool → Sto → SRes} : (ResB.ok d S).s E k = k d S := rfl
@[simp] theorem ResB.s_exc {c fs S E} {k : Bool → Sto → SRes} : (ResB.exc c fs S).s E k = .exc c fs E S := rfl
@[simp] theorem ResB.s_bad {E} {k : Bool → Sto → SRes} : ResB.bad.s E k = .bad := rfl
@[simp] theorem SRes.then_nx {E S} {k : FS} : (SRes.nx E S).then k = k E S := rfl
@[simp] theorem SRes.then_ret {d S} {k : FS} : (SRes.ret d S).then k = .ret d S := rfl
@[simp] theorem SRes.then_brk {E S} {k : FS} : (SRes.brk E S).then k = .brk E S := rfl
@[simp] theorem SRes.then_cnt {E S} {k : FS} : (SRes.cnt E S).then k = .cnt E S := rfl
@[simp] theorem SRes.then_exc {c fs E S} {k : FS} : (SRes.exc c fs E S).then k = .exc c fs E S := rfl
@[simp] theorem SRes.then_bad {k : FS} : SRes.bad.then k = .bad := rfl

def sNil : FS := fun E S => .nx E S
def sSeq (f g : FS) : FS := fun E S => (f E S).then g
def sSet (i : Nat) (f : FE) : FS := fun E S => (f E S).s E fun d S1 => .nx (E.set i (some d)) S1
def sEx (f : FE) : FS := fun E S => (f E S).s E fun _ S1 => .nx E S1
def sRet (f : FE) : FS := fun E S => (f E S).s E fun d S1 => .ret d S1
def sRetN : FS := fun _ S => .ret .non S
def sIf (t : FB) (f g : FS) : FS := fun E S => (t E S).s E fun b S1 => if b then f E S1 else g E S1
/-- a tuple's items into slots: a tree of names -/
inductive Pat where
  | nm (i : Nat)
  | tp (ps : List Pat)
mutual
def Pat.put : Pat → D → Ev → Option Ev
  | .nm i, d, E => some (E.set i (some d))
  | .tp ps, .tup xs, E => if ps.length = xs.length then Pat.puts ps xs E else none
  | .tp _, _, _ => none
def Pat.puts : List Pat → List D → Ev → Option Ev
  | [], [], E => some E
  | p :: ps, d :: ds, E => (match Pat.put p d E with
    | some E1 => Pat.puts ps ds E1
    | none => none)
  | _, _, _ => none
end
mutual
def Pat.slots : Pat → List Nat
  | .nm i => [i]
  | .tp ps => Pat.slotsL ps
def Pat.slotsL : List Pat → List Nat
  | [] => []
  | p :: ps => Pat.slots p ++ Pat.slotsL ps
end
def sPut (p : Pat) (f : FE) : FS := fun E S => (f E S).s E fun d S1 => match p.put d E with
  | some E1 => .nx E1 S1
  | none => .bad
/-- xs[i] = e: e first -/
def sSub (f o i : FE) : FS := fun E S => (f E S).s E fun d S1 => (o E S1).s E fun x S2 => (i E S2).s E fun k S3 => match x, k with
  | .ref n, .int j => (match S3[n]? with
    | some (.lst xs) => (match ixN xs.length j with
      | some a => .nx E (S3.set n (.lst (xs.set a d)))
      | none => .bad)
    | _ => .bad)
  | _, _ => .bad
section
variable {X : Cx} {W : WX} {pos : Pos}
theorem s_nil : PSs X [] (tS X.K W sNil) := ⟨fun pins s σ H D I ⟨m, E, S, re, rs, p⟩ => pss_nil.run pins s σ H D I (p H m σ Le.refl re rs)⟩
theorem s_cons {st : Stmt} {rest : List Stmt} {f g : FS} (h1 : PS X st (tS X.K W f)) (h2 : PSs X rest (tS X.K W g)) : PSs X (st :: rest) (tS X.K W (sSeq f g)) := by
  refine ⟨fun pins s σ H D I ⟨m, E, S, re, rs, p⟩ => (pss_cons h1 h2).run pins s σ H D I ?_⟩
  refine ⟨m, E, S, re, rs, ?_⟩
  have p' : PQ X.K W H m ((f E S).then g) D := p
  cases e : f E S with
  | nx E1 S1 => rw [e] at p'; exact fun H1 m1 σ1 l re1 rs1 => ⟨m1, E1, S1, re1, rs1, PQ.re l p'⟩
  | brk E1 S1 => rw [e] at p'; exact p'
  | cnt E1 S1 => rw [e] at p'; exact p'
  | ret d S1 => rw [e] at p'; exact p'
  | exc c fs E1 S1 => rw [e] at p'; exact p'
  | bad => rw [e] at p'; exact p'
theorem s_one {st : Stmt} {f : FS} (h1 : PS X st (tS X.K W f)) : PSs X [st] (tS X.K W (sSeq f sNil)) := s_cons h1 s_nil
/-- an expression's value, then what hangs on it -/
theorem tE.stm {K : PySem.W.Frag} {W : WX} {σ : L2.St} {H : Hp} {f : FE} {k : Ev → D → Sto → SRes} {D : Ends} (h : tS K W (fun E S => (f E S).s E (k E)) D σ H) :
    tE K W f σ H fun v H1 => ∃ m E S d, RE K H1 m E σ ∧ RS K H1 m S ∧ RV K H1 m d v ∧ PQ K W H1 m (k E d S) D := by
  obtain ⟨m, E, S, re, rs, p⟩ := h
  refine ⟨m, E, S, re, rs, ?_⟩
  have p' : PQ K W H m ((f E S).s E (k E)) D := p
  cases e : f E S with
  | ok d S1 => rw [e] at p'; exact fun H1 m1 v l rs1 rv => ⟨m1, E, S1, d, re.up l, rs1, rv, PQ.re l p'⟩
  | exc c fs S1 => rw [e] at p'; exact fun H1 m1 cls dd l rs1 rx => p' H1 m1 σ cls dd l (re.up l) rs1 rx
  | bad => rw [e] at p'; exact p'
theorem tT.stm {K : PySem.W.Frag} {W : WX} {σ : L2.St} {H : Hp} {f : FB} {k : Ev → Bool → Sto → SRes} {D : Ends} (h : tS K W (fun E S => (f E S).s E (k E)) D σ H) :
    tT K W f σ H fun b H1 => ∃ m E S, RE K H1 m E σ ∧ RS K H1 m S ∧ PQ K W H1 m (k E b S) D := by
  obtain ⟨m, E, S, re, rs, p⟩ := h
  refine ⟨m, E, S, re, rs, ?_⟩
  have p' : PQ K W H m ((f E S).s E (k E)) D := p
  cases e : f E S with
  | ok d S1 => rw [e] at p'; exact fun H1 m1 l rs1 => ⟨m1, E, S1, re.up l, rs1, PQ.re l p'⟩
  | exc c fs S1 => rw [e] at p'; exact fun H1 m1 cls dd l rs1 rx => p' H1 m1 σ cls dd l (re.up l) rs1 rx
  | bad => rw [e] at p'; exact p'
theorem s_set {i : Nat} {x : Str} {e : Expr} {f : FE} {pos' : Pos} (hN : X.N.Nodup) (hi : X.N[i]? = some x) (hx : Loc X.env.scope x) (he : PE X e (tE X.K W f)) (hs : swapsWith e (some (.Name x pos')) pos.line X.env = pure false := by rfl)
    (hf : X.fn x = true ∨ X.env.scope.names.lookup x = some .local := by first | exact .inl rfl | exact .inr rfl) : PS X (.Assign [.Name x pos'] e pos) (tS X.K W (sSet i f)) := by
  refine ⟨fun pins s σ H D I h => (ps_set hN hi hx he hs hf).run pins s σ H D I ?_⟩
  exact (tE.stm (k := fun E d S1 => .nx (E.set i (some d)) S1) h).mono fun v H1 ⟨m, E, S, d, re, rs, rv, p⟩ => p H1 m _ Le.refl (re.set i rv) rs
theorem s_ex {e : Expr} {f : FE} (he : PE X e (tE X.K W f)) (hsw : swapsWith e none pos.line X.env = pure false := by rfl) : PS X (.Expr e pos) (tS X.K W (sEx f)) := by
  refine ⟨fun pins s σ H D I h => (ps_expr he hsw).run pins s σ H D I ?_⟩
  exact (tE.stm (k := fun E d S1 => .nx E S1) h).mono fun v H1 ⟨m, E, S, d, re, rs, rv, p⟩ => p H1 m _ Le.refl re rs
theorem s_ret {e : Expr} {f : FE} (he : PE X e (tE X.K W f)) : PS X (.Return (some e) pos) (tS X.K W (sRet f)) := by
  refine ⟨fun pins s σ H D I h => (ps_ret he).run pins s σ H D I ?_⟩
  exact (tE.stm (k := fun E d S1 => .ret d S1) h).mono fun v H1 ⟨m, E, S, d, re, rs, rv, p⟩ => p H1 m v Le.refl rs rv
theorem s_retN : PS X (.Return none pos) (tS X.K W sRetN) := ⟨fun pins s σ H D I ⟨m, E, S, re, rs, p⟩ => ps_retN.run pins s σ H D I (p H m _ Le.refl rs .non)⟩
theorem s_pass : PS X (.Pass pos) (tS X.K W sNil) := ⟨fun pins s σ H D I ⟨m, E, S, re, rs, p⟩ => ps_pass.run pins s σ H D I (p H m σ Le.refl re rs)⟩
def sBrk : FS := fun E S => .brk E S
def sCnt : FS := fun E S => .cnt E S
theorem s_brk : PS X (.Break pos) (tS X.K W sBrk) := ⟨fun pins s σ H D I ⟨m, E, S, re, rs, p⟩ => ps_break.run pins s σ H D I (p H m σ Le.refl re rs)⟩
theorem s_cnt : PS X (.Continue pos) (tS X.K W sCnt) := ⟨fun pins s σ H D I ⟨m, E, S, re, rs, p⟩ => ps_continue.run pins s σ H D I (p H m σ Le.refl re rs)⟩
theorem s_if {c : Expr} {a b : List Stmt} {t : FB} {f g : FS} (hc : PT X c (tT X.K W t)) (ha : PSs X a (tS X.K W f)) (hb : PSs X b (tS X.K W g)) : PS X (.If c a b pos) (tS X.K W (sIf t f g)) := by
  refine ⟨fun pins s σ H D I h => (ps_if hc ha hb).run pins s σ H D I ?_⟩
  refine (tT.stm (k := fun E b S1 => if b then f E S1 else g E S1) h).mono fun b H1 ⟨m, E, S, re, rs, p⟩ => ?_
  cases b with
  | true => exact iteT ⟨m, E, S, re, rs, p⟩
  | false => exact iteF ⟨m, E, S, re, rs, p⟩
theorem wipe_set_mem {σ : L2.St} {i : Nat} {o : Option V} : ∀ {vs : List Nat}, i ∈ vs → wipe (σ.set i o) vs = wipe σ vs
  | [], h => by cases h
  | v :: vs, h => by
    by_cases e : v = i
    · subst e
      show (wipe (σ.set v o) vs).set v none = (wipe σ vs).set v none
      have comm : ∀ (us : List Nat), (wipe (σ.set v o) us).set v none = (wipe σ us).set v none := by
        intro us
        induction us with
        | nil => show (σ.set v o).set v none = σ.set v none; rw [List.set_set]
        | cons u us ih =>
          show ((wipe (σ.set v o) us).set u none).set v none = ((wipe σ us).set u none).set v none
          by_cases e2 : u = v
          · subst e2; rw [List.set_set, List.set_set]; exact ih
          · rw [List.set_comm _ _ e2, List.set_comm _ _ e2, ih]
      exact comm vs
    · have h' : i ∈ vs := by
        rcases List.mem_cons.mp h with z | z
        · exact absurd z.symm e
        · exact z
      show (wipe (σ.set i o) vs).set v none = (wipe σ vs).set v none
      rw [wipe_set_mem h']
theorem wipe_twice (σ : L2.St) (vs : List Nat) : wipe (wipe σ vs) vs = wipe σ vs := by
  have gen : ∀ us : List Nat, (∀ u ∈ us, u ∈ vs) → wipe (wipe σ us) vs = wipe σ vs := by
    intro us
    induction us with
    | nil => intro _; rfl
    | cons u us ih =>
      intro h
      show wipe ((wipe σ us).set u none) vs = wipe σ vs
      rw [wipe_set_mem (h u List.mem_cons_self)]
      exact ih fun x hx => h x (List.mem_cons_of_mem _ hx)
  exact gen vs fun _ h => h
/-- a target's reading -/
def Fits (p : List Nat) (σ σ' : L2.St) : Prop := ∀ vs : List Nat, (∀ i ∈ p, i ∈ vs) → wipe σ' vs = wipe σ vs
def GP (K : PySem.W.Frag) (p : Pat) (g : TG) : Prop := ∀ (d : D) (v : V) (σ : L2.St) (H : Hp) (m : List Addr) (E E1 : Ev) (Q : L2.St → Hp → Prop), RV K H m d v → RE K H m E σ → p.put d E = some E1 → (∀ σ', RE K H m E1 σ' → Fits p.slots σ σ' → Q σ' H) → g v σ H Q
def GPs (K : PySem.W.Frag) (p : List Pat) (g : TGs) : Prop := ∀ (ds : List D) (vs : List V) (σ : L2.St) (H : Hp) (m : List Addr) (E E1 : Ev) (Q : L2.St → Hp → Prop), RVs K H m ds vs → RE K H m E σ → Pat.puts p ds E = some E1 → (∀ σ', RE K H m E1 σ' → Fits (Pat.slotsL p) σ σ' → Q σ' H) → g vs σ H Q
theorem gp_nm {K : PySem.W.Frag} (i : Nat) : GP K (.nm i) (gName i) := fun d v σ H m E E1 Q rv re h q => by
  simp only [Pat.put, Option.some.injEq] at h
  subst h
  exact q _ (re.set i rv) fun vs hv => wipe_set_mem (hv i (by simp [Pat.slots]))
theorem gps_nil {K : PySem.W.Frag} : GPs K [] gNil := fun ds vs σ H m E E1 Q rv re h q => by
  cases rv with
  | nil => simp only [Pat.puts, Option.some.injEq] at h; subst h; exact ⟨rfl, q _ re fun _ _ => rfl⟩
  | cons _ _ => simp [Pat.puts] at h
theorem gps_cons {K : PySem.W.Frag} {p : Pat} {ps : List Pat} {g : TG} {gs : TGs} (h1 : GP K p g) (h2 : GPs K ps gs) : GPs K (p :: ps) (gCons g gs) := fun ds vs σ H m E E1 Q rv re h q => by
  cases rv with
  | nil => simp [Pat.puts] at h
  | cons r t =>
    rename_i d v ds vs
    simp only [Pat.puts] at h
    cases e : p.put d E with
    | none => simp [e] at h
    | some E2 =>
      simp only [e] at h
      refine ⟨v, vs, rfl, h1 d v σ H m E E2 _ r re e fun σ' re' f1 => h2 ds vs σ' H m E2 E1 Q t re' h fun σ2 re2 f2 => q σ2 re2 fun us hu => ?_⟩
      simp only [Pat.slotsL, List.mem_append] at hu
      rw [f2 us (fun i hi => hu i (.inr hi)), f1 us (fun i hi => hu i (.inl hi))]
theorem gp_tp {K : PySem.W.Frag} {ps : List Pat} {gs : TGs} {n : Nat} (hn : ps.length = n) (h : GPs K ps gs) : GP K (.tp ps) (gTup K n gs) := fun d v σ H m E E1 Q rv re e q => by
  cases rv with
  | tup h1 h2 =>
    rename_i a xs vs
    simp only [Pat.put] at e
    by_cases hl : ps.length = xs.length
    · rw [if_pos hl] at e
      exact ⟨a, vs, rfl, h1, by rw [← h2.len, ← hl, hn], h xs vs σ H m E E1 Q h2 re e fun σ' re' f => q σ' re' (by simpa only [Pat.slots] using f)⟩
    · rw [if_neg hl] at e; cases e
  | _ => simp [Pat.put] at e
theorem s_put {tg e : Expr} {f : FE} {p : Pat} {g : TG} (he : PE X e (tE X.K W f)) (hg : PG X tg g) (hp : GP X.K p g) (hs : swapsWithSole [tg] e pos.line X.env = pure false := by rfl) (hw : swappedStores [tg] e X.env = pure none := by rfl)
    (h1 : (assignEach [tg] X.env).map (·.2) = [assign tg X.env] := by rfl) : PS X (.Assign [tg] e pos) (tS X.K W (sPut p f)) := by
  refine ⟨fun pins s σ H D I h => (ps_asg he hg hs hw h1).run pins s σ H D I ?_⟩
  refine (tE.stm (k := fun E d S1 => match p.put d E with | some E1 => .nx E1 S1 | none => .bad) h).mono fun v H1 ⟨m, E, S, d, re, rs, rv, q⟩ => ?_
  cases e : p.put d E with
  | none => simp only [e] at q; exact q.elim
  | some E1 =>
    simp only [e] at q
    exact hp d v σ H1 m E E1 _ rv re e fun σ' re' _ => q H1 m σ' Le.refl re' rs
theorem s_sub {o i e : Expr} {f fo fi : FE} {p2 : Pos} (he : PE X e (tE X.K W f)) (ho : PE X o (tE X.K W fo)) (hi : PE X i (tE X.K W fi)) (hg : PG X (.Subscript o i p2) (L2.gSub (tE X.K W fo) (tE X.K W fi) rSetL))
    (hs : swapsWithSole [.Subscript o i p2] e pos.line X.env = pure false := by rfl) (hw : swappedStores [.Subscript o i p2] e X.env = pure none := by rfl)
    (h1 : (assignEach [.Subscript o i p2] X.env).map (·.2) = [assign (.Subscript o i p2) X.env] := by rfl) : PS X (.Assign [.Subscript o i p2] e pos) (tS X.K W (sSub f fo fi)) := by
  refine ⟨fun pins s σ H D I h => (ps_asg he hg hs hw h1).run pins s σ H D I ?_⟩
  refine (tE.stm (k := fun E d S1 => (fo E S1).s E fun x S2 => (fi E S2).s E fun k S3 => match x, k with
    | .ref n, .int j => (match S3[n]? with
      | some (.lst xs) => (match ixN xs.length j with
        | some a => .nx E (S3.set n (.lst (xs.set a d)))
        | none => .bad)
      | _ => .bad)
    | _, _ => .bad) h).mono fun v H1 ⟨m, E, S, d, re, rs, rv, p⟩ => ?_
  show tE X.K W fo σ H1 _
  refine ⟨m, E, S, re, rs, ?_⟩
  cases e1 : fo E S with
  | exc c fs S1 => rw [e1] at p; exact fun H2 m2 cls dd l rs1 rx => p H2 m2 σ cls dd l (re.up l) rs1 rx
  | bad => rw [e1] at p; exact p
  | ok x S1 =>
    rw [e1] at p
    intro H2 m2 vx l2 rs2 rx
    show tE X.K W fi σ H2 _
    refine ⟨m2, E, S1, re.up l2, rs2, ?_⟩
    have p2 := PQ.re l2 p
    simp only [Res.s_ok] at p2
    cases e2 : fi E S1 with
    | exc c fs S2 => rw [e2] at p2; exact fun H2 m2 cls dd l rs1 rx => p2 H2 m2 σ cls dd l ((re.up l2).up l) rs1 rx
    | bad => rw [e2] at p2; exact p2
    | ok k S2 =>
      rw [e2] at p2
      intro H3 m3 vk l3 rs3 rk
      have p3 := PQ.re l3 p2
      simp only [Res.s_ok] at p3
      have rx3 := rx.up l3
      cases rx3 with
      | ref h1 =>
        rename_i n a
        cases rk with
        | int j =>
          cases e3 : S2[n]? with
          | none => simp [e3] at p3; exact p3.elim
          | some c =>
            cases c with
            | lst xs =>
              simp only [e3] at p3
              cases e4 : ixN xs.length j with
              | none => simp only [e4] at p3; exact p3.elim
              | some b =>
                simp only [e4] at p3
                obtain ⟨a', vs, q1, q2, q3, q4⟩ := rs3.list e3 (.ref h1)
                cases q1
                refine ⟨_, vs, j, b, rfl, rfl, q3, by rw [← q4.len]; exact e4, ?_⟩
                have rv3 : RV X.K H3 m3 d v := (rv.up l2).up l3
                obtain ⟨l4, r4⟩ := rs3.write e3 h1 q3 (RVs.set rv3 b q4)
                exact p3 _ m3 σ l4 (((re.up l2).up l3).up l4) r4
            | _ => simp [e3] at p3; exact p3.elim
        | _ => exact p3.elim
      | _ => cases rk <;> exact p3.elim
end

/-! ## defs -/
structure FnG (P : Program) (w : World) (K : PySem.W.Frag) (mg : Str → Option Value) (base : Heap) (k : Nat) (f : Addr) (fd : FuncData) (ps : List Str) (sp : Sp) : Prop where
  len : ∀ vs H Q E, sp vs H Q E → vs.length = ps.length
  run : ∀ (A : Around) (outer : List Env) (s : Shared) (H : Hp) (args : Args) (us : List Value) (vs : List V) (Q : VK) (E : XK), A.guards = some [] → Room k A → Env0 P w K mg base A outer s H →
    BindsTo s fd args (ps.zip us) → Vals vs us → sp vs H Q E → codeAny (model P w) A (.call (.ref f) args) (CR (L2.CX P w) outer P w H s Q E) s
theorem FnG.mono {P w K mg base j k f fd ps sp} (F : FnG P w K mg base j f fd ps sp) (h : j ≤ k) : FnG P w K mg base k f fd ps sp :=
  ⟨F.len, fun A outer s H args us vs Q E hg hr => F.run A outer s H args us vs Q E hg (hr.mono h)⟩
theorem FnG.imp {P w K mg base k f fd ps sp sp'} (F : FnG P w K mg base k f fd ps sp) (h : ∀ vs H Q E, sp' vs H Q E → sp vs H Q E) : FnG P w K mg base k f fd ps sp' :=
  ⟨fun vs H Q E q => F.len vs H Q E (h _ _ _ _ q), fun A outer s H args us vs Q E hg hr he hb hv hs => F.run A outer s H args us vs Q E hg hr he hb hv (h _ _ _ _ hs)⟩
/-- a def's promise by its function -/
def spF (K : PySem.W.Frag) (n : Nat) (F : List D → Sto → Res) : Sp := fun vs H Q E => ∃ m S ds, ds.length = n ∧ RS K H m S ∧ RVs K H m ds vs ∧ PV K (fun c d _ H' => E c d H') H m [] (F ds S) Q
/-- what a body does, from the arguments -/
def runS (L : Nat) (b : FS) (ds : List D) (S : Sto) : Res := match b (ds.map some ++ List.replicate (L - ds.length) none) S with
  | .nx _ S1 => .ok .non S1
  | .ret d S1 => .ok d S1
  | .exc c fs _ S1 => .exc c fs S1
  | _ => .bad
theorem start_rel {K : PySem.W.Frag} {H : Hp} {m : List Addr} {N : List Str} {ds : List D} {vs : List V} (h : RVs K H m ds vs) : RE K H m (ds.map some ++ List.replicate (N.length - ds.length) none) (L2.start N vs) := by
  unfold L2.start
  rw [← h.len]
  refine ⟨by simp [h.len], fun i d e => ?_⟩
  by_cases hi : i < ds.length
  · rw [List.getElem?_append_left (by simpa using hi)] at e
    have hd : ds[i]? = some d := by
      rw [List.getElem?_map] at e
      cases q : ds[i]? with
      | none => rw [q] at e; cases e
      | some d' => rw [q] at e; cases e; rfl
    obtain ⟨v, h1, h2⟩ := h.at hd
    refine ⟨v, ?_, h2⟩
    rw [List.getElem?_append_left (by simpa [← h.len] using hi), List.getElem?_map, h1]
    rfl
  · rw [List.getElem?_append_right (by simpa using hi), List.getElem?_replicate] at e
    split at e <;> cases e
theorem fn_ok {P : Program} {w : World} {K : PySem.W.Frag} {mg : Str → Option Value} {base : Heap} {x qual : Str} {params : Arguments} {body : List Stmt} {scope : Scope} {dvs : List V} {kws : List (Str × V)} {f : Addr} {fd : FuncData} {N ps : List Str} {k : Nat} {b : FS}
    (F : FunD K x qual params body scope dvs kws f fd) (Sc : FnScope N ps scope)
    (hb : ∀ (cdv : Value) (A : Around) (outer : List Env) (s : Shared) (H : Hp) (E : XK), A.guards = some [] → Room k (A.deeper (envOfC qual scope s.heap.objs.size f cdv)) →
      PSs (cxOf (L2.CX P w) P w K mg base N qual scope f cdv A outer s H E) body (tS K (fun c d _ H' => E c d H') b)) :
    FnG P w K mg base (k + 1) f fd ps (spF K ps.length (runS N.length b)) := by
  obtain ⟨oc, od, dV, kV, doc, pm, an, cdv, ct, osl, rfl, lk, hcd, _, _⟩ := F.ex
  have len : ∀ vs H Q E, spF K ps.length (runS N.length b) vs H Q E → vs.length = ps.length := fun vs H Q E ⟨m, S, ds, h1, _, h2, _⟩ => by rw [← h2.len, h1]
  refine ⟨len, fun A outer s H args us vs Q E hg hr e0 hbd r hsp => ?_⟩
  have cont : ∀ (H' : Hp) (vs' : List V) (Q' : VK) (E' : XK), spF K ps.length (runS N.length b) vs' H' Q' E' → tS K (fun c d _ H'' => E' c d H'') b { nx := fun _ H'' => Q' .non H'', rt := Q' } (L2.start N vs') H' := by
    intro H' vs' Q' E' ⟨m, S, ds, h1, h2, h3, h4⟩
    refine ⟨m, _, S, start_rel h3, h2, ?_⟩
    unfold runS at h4
    cases e : b (ds.map some ++ List.replicate (N.length - ds.length) none) S with
    | nx E1 S1 => rw [e] at h4; exact fun H1 m1 σ l _ rs1 => h4 H1 m1 _ l rs1 .non
    | ret d S1 => rw [e] at h4; exact fun H1 m1 v l rs1 rv => h4 H1 m1 v l rs1 rv
    | exc c fs E1 S1 => rw [e] at h4; exact fun H1 m1 σ cls dd l _ rs1 rx => h4 H1 m1 cls dd l rs1 rx
    | brk E1 S1 => rw [e] at h4; exact h4.elim
    | cnt E1 S1 => rw [e] at h4; exact h4.elim
    | bad => rw [e] at h4; exact h4.elim
  have hl := len _ _ _ _ hsp
  have KX : K.In s.heap := e0.mod.kin.keeps fun b o e => (e0.bs b o e).1
  have hkind : ∀ y ∈ ps.zip us, scope.names.lookup y.1 = some .local ∨ (scope.names.lookup y.1 = some .cell ∧ ((cellsFrom (s.heap.objs.size + 1) scope.names []).lookup y.1).isSome = true) := by
    intro y hy
    rcases Sc.par y.1 (List.of_mem_zip (a := y.1) (b := y.2) hy).1 with q | q
    · exact .inl q
    · exact .inr ⟨q, PySem.W.cellsFrom_some _ _ _ (.inl q)⟩
  refine codeAny_call_function hr.depth (KX _ _ lk) rfl Sc.co Sc.gen rfl (PySem.W.codeRec_of KX hcd) (hbd _ _ _ _ ?_)
  refine wpAny_newFunctionEnv_cells Sc.kind hkind fun env he s1 ic => ?_
  subst he
  refine ⟨(e0.mod.nolimit.keeps fun b o e => (e0.bs b o e).1).keeps ic.toInCall.keep, codeAny_func ?_⟩
  have I : Inv (cxOf (L2.CX P w) P w K mg base N qual scope f cdv A outer s H E) [] (L2.start N vs) H s1 := inv_start Sc hr.hd e0 hl r ic
  refine wpAny_mono ((hb cdv A outer s H E hg (hr.deeper _)).run [] s1 (L2.start N vs) H _ I (cont H vs Q E hsp)) (fun fl s' hs => ?_) fun e s' hs => hs
  cases fl with
  | ret u =>
    obtain ⟨v, σ', H', J, rv, q⟩ := hs
    exact ⟨v, H', J.os, J.bare, J.base, J.hok, rv, q⟩
  | next =>
    obtain ⟨σ', H', J, q⟩ := hs
    exact ⟨.non, H', J.os, J.bare, J.base, J.hok, rfl, q⟩
  | brk =>
    obtain ⟨σ', H', J, q⟩ := hs
    exact (show False from q).elim
  | cont =>
    obtain ⟨σ', H', J, q⟩ := hs
    exact (show False from q).elim
end Z
namespace Z
open PySem PySem.Spec PyProof.Rows L2

/-! ## calls of the text's own defs -/
def pick {α : Type} (idx : List Nat) (l : List α) : List α := idx.filterMap fun i => l[i]?
/-- how n values written by place, and those by the names ks, come to the parameters: idx, over them and the defaults -/
structure Bd (K : PySem.W.Frag) (fd : FuncData) (ps : List Str) (n : Nat) (ks : List Str) (idx : List Nat) (dfl : List D) : Prop where
  to : ∃ (dvs : List V) (du : List Value), (∀ H m, RVs K H m dfl dvs) ∧ Vals dvs du ∧ ∀ (s : Shared) (us : List Value), K.In s.heap → us.length = n + ks.length →
    BindsTo s fd ⟨us.take n, ks.zip (us.drop n)⟩ (ps.zip (pick idx (us ++ du)))
theorem Vals.pick {vs : List V} {us : List Value} (h : Vals vs us) : ∀ idx : List Nat, Vals (Z.pick idx vs) (Z.pick idx us)
  | [] => .nil
  | i :: r => by
    show Vals (List.filterMap (fun i => vs[i]?) (i :: r)) (List.filterMap (fun i => us[i]?) (i :: r))
    cases e : vs[i]? with
    | none =>
      rw [List.filterMap_cons, List.filterMap_cons, e, h.none_of e]
      exact Vals.pick h r
    | some v =>
      obtain ⟨u, hu, rv⟩ := h.get e
      rw [List.filterMap_cons, List.filterMap_cons, e, hu]
      exact .cons rv (Vals.pick h r)
theorem RVs.pick {K H m} {ds : List D} {vs : List V} (h : RVs K H m ds vs) : ∀ idx : List Nat, RVs K H m (Z.pick idx ds) (Z.pick idx vs)
  | [] => .nil
  | i :: r => by
    show RVs K H m (List.filterMap (fun i => ds[i]?) (i :: r)) (List.filterMap (fun i => vs[i]?) (i :: r))
    cases e : ds[i]? with
    | none =>
      have e2 : vs[i]? = none := by
        rw [List.getElem?_eq_none_iff] at e ⊢
        rw [← h.len]; exact e
      rw [List.filterMap_cons, List.filterMap_cons, e, e2]
      exact RVs.pick h r
    | some d =>
      obtain ⟨v, hv, rv⟩ := h.at e
      rw [List.filterMap_cons, List.filterMap_cons, e, hv]
      exact .cons rv (RVs.pick h r)
/-- the callee's function behind the binding -/
def vFn (n : Nat) (idx : List Nat) (dfl : List D) (Fn : List D → Sto → Res) (ds : List D) (S : Sto) : Res := if ds.length = n then Fn (pick idx (ds ++ dfl)) S else .bad
def lApp (l r : FL) : FL := fun E S => (l E S).bindL fun xs S1 => (r E S1).bindL fun ys S2 => .ok (xs ++ ys) S2
section
variable {X : Cx} {W : WX} {pos p : Pos} {x : Str} {f : Addr} {fd : FuncData} {ps ks : List Str} {n lv : Nat} {idx : List Nat} {dfl : List D} {Fn : List D → Sto → Res} {np : Nat}
theorem run_call {pins : List (Addr × Obj)} {s : Shared} {σ : L2.St} {H : Hp} {m : List Addr} {S : Sto} {ds : List D} {vs : List V} {us : List Value} {Q : VK} (F : FnG X.prog X.w X.K X.mg X.base lv f fd ps (spF X.K np Fn)) (hr : Room lv X.A) (hgd : X.A.guards = some [])
    (tk : Takes X W) (B : Bd X.K fd ps n ks idx dfl) (I : Inv X pins σ H s) (rs : RS X.K H m S) (rv : RVs X.K H m ds vs) (r : Vals vs us) (hn : us.length = n + ks.length)
    (hl : (pick idx (ds ++ dfl)).length = np) (q : PV X.K W H m σ (Fn (pick idx (ds ++ dfl)) S) Q) : wpAny (model X.prog X.w) X.A (call (.ref f) (us.take n) (ks.zip (us.drop n))) (EP X pins σ Q) X.xe s := by
  obtain ⟨dvs, du, h1, h2, h3⟩ := B.to
  have hsp : spF X.K np Fn (pick idx (vs ++ dvs)) H Q (fun c d H' => W c d σ H') := by
    refine ⟨m, S, _, hl, rs, (rv.app (h1 H m)).pick idx, ?_⟩
    cases e : Fn (pick idx (ds ++ dfl)) S with
    | ok d S1 => rw [e] at q; exact q
    | exc c fs S1 => rw [e] at q; exact q
    | bad => rw [e] at q; exact q
  refine wpAny_call (codeAny_mono (F.run X.A X.stack s H _ (pick idx (us ++ du)) (pick idx (vs ++ dvs)) Q (fun c d H' => W c d σ H') hgd hr I.env0 (h3 s us I.kIn hn) (Vals.pick (r.append h2) idx) hsp) fun r' s' hq => ?_)
  cases r' with
  | error e => exact tk e s' (XE.of_call I (fun _ _ _ z => z) hq)
  | ok fl =>
    cases fl with
    | ret u => exact I.after hq
    | next => exact (show False from hq).elim
    | brk => exact (show False from hq).elim
    | cont => exact (show False from hq).elim
theorem e_call {e : Expr} {es : List Expr} {l : FL} (F : FnG X.prog X.w X.K X.mg X.base lv f fd ps (spF X.K np Fn)) (hr : Room lv X.A) (hgd : X.A.guards = some []) (tk : Takes X W) (hg : Gl X x) (hm : X.mg x = some (.ref f)) (hk : PySem.W.keepIn X.K (.ref f) = true)
    (B : Bd X.K fd ps n [] idx dfl) (hl : ∀ ds : List D, ds.length = n → (pick idx (ds ++ dfl)).length = np) (ha : PA X (e :: es) (tL X.K W l)) (hdb : (x == ("__debug__" : Str)) = false := by decide)
    (he : starEach (e :: es) X.env = (false, eval e X.env) :: starEach es X.env := by rfl)
    (hpl : (backTo pos (starEach es X.env)).any (·.1) = false := by rfl) : PE X (.Call (.Name x p) (e :: es) [] pos) (tE X.K W (vCall (vFn n idx dfl Fn) l)) := by
  refine ⟨fun pins s σ H Q I h => ?_⟩
  refine wpAny_Call_Name_kw (ld_glob I hg hm ?_ hdb)
  refine PySem.W.callWith_K (h₀ := X.base) I.ok.mod.kin hk (thn (ha.run pos pins s σ H _ I (tL.then (k := fun _ => vFn n idx dfl Fn) h)) fun us s1 ⟨vs, H1, I1, r, m, E, S, ds, re, rs, rv, q⟩ => ⟨I1.kIn, ?_⟩) he hpl
  unfold vFn at q
  by_cases hn : ds.length = n
  · rw [if_pos hn] at q
    have hu : us.length = n + ([] : List Str).length := by rw [← r.length, ← rv.len, hn]; rfl
    have := run_call F hr hgd tk B I1 rs rv r hu (hl ds hn) q
    rw [List.take_of_length_le (by have z : ([] : List Str).length = 0 := rfl; omega)] at this
    exact this
  · rw [if_neg hn] at q; exact q.elim
theorem e_call0 (F : FnG X.prog X.w X.K X.mg X.base lv f fd ps (spF X.K np Fn)) (hr : Room lv X.A) (hgd : X.A.guards = some []) (tk : Takes X W) (hg : Gl X x) (hm : X.mg x = some (.ref f)) (hk : PySem.W.keepIn X.K (.ref f) = true)
    (B : Bd X.K fd ps 0 [] idx dfl) (hl : ∀ ds : List D, ds.length = 0 → (pick idx (ds ++ dfl)).length = np) (hdb : (x == ("__debug__" : Str)) = false := by decide) : PE X (.Call (.Name x p) [] [] pos) (tE X.K W (vCall (vFn 0 idx dfl Fn) lNil)) := by
  refine ⟨fun pins s σ H Q I ⟨m, E, S, re, rs, q⟩ => ?_⟩
  refine wpAny_Call_Name_kw (ld_glob I hg hm ?_ hdb)
  refine PySem.W.callWith_K0 I.kIn hk ?_
  exact run_call (us := []) (ds := []) F hr hgd tk B I rs .nil .nil rfl (hl [] rfl) q
theorem lapp {K : PySem.W.Frag} {σ : L2.St} {H : Hp} {l r : FL} {k : List D → Sto → Res} {Q : VK} (h : tE K W (vCall k (lApp l r)) σ H Q) :
    tL K W l σ H fun vs H1 => tL K W r σ H1 fun us H2 => ∃ m S ds es, RS K H2 m S ∧ RVs K H2 m ds vs ∧ RVs K H2 m es us ∧ PV K W H2 m σ (k (ds ++ es) S) Q := by
  obtain ⟨m, E, S, re, rs, p⟩ := h
  refine ⟨m, E, S, re, rs, ?_⟩
  have p' : PV K W H m σ (((l E S).bindL fun xs S1 => (r E S1).bindL fun ys S2 => .ok (xs ++ ys) S2).bind k) Q := p
  cases e : l E S with
  | ok ds S1 =>
    rw [e] at p'
    intro H1 m1 vs l1 rs1 rv
    refine ⟨m1, E, S1, re.up l1, rs1, ?_⟩
    simp only [ResL.bindL_ok] at p'
    have p2 := PV.re l1 p'
    cases e2 : r E S1 with
    | ok es S2 =>
      rw [e2] at p2
      exact fun H2 m2 us l2 rs2 ru => ⟨m2, S2, ds, es, rs2, rv.up l2, ru, PV.re l2 p2⟩
    | exc c fs S2 => rw [e2] at p2; exact p2
    | bad => rw [e2] at p2; exact p2
  | exc c fs S1 => rw [e] at p'; exact p'
  | bad => rw [e] at p'; exact p'
/-- f(e, .., k = v, ..) -/
theorem e_callK {e : Expr} {es : List Expr} {kws : List Keyword} {l r : FL} (F : FnG X.prog X.w X.K X.mg X.base lv f fd ps (spF X.K np Fn)) (hr : Room lv X.A) (hgd : X.A.guards = some []) (tk : Takes X W) (hg : Gl X x) (hm : X.mg x = some (.ref f)) (hk : PySem.W.keepIn X.K (.ref f) = true)
    (B : Bd X.K fd ps n ks idx dfl) (hl : ∀ ds : List D, ds.length = n + ks.length → (pick idx (ds ++ dfl)).length = np) (hne : (e :: es).length = n) (ha : PA X (e :: es) (tL X.K W l)) (hkw : PK X kws (tL X.K W r)) (hlen : ∀ E S vs S1, l E S = .ok vs S1 → vs.length = n)
    (hall : (backToKw pos (keywordEach kws X.env)).all (·.1.isSome) = true := by rfl) (hks : (backToKw pos (keywordEach kws X.env)).filterMap (·.1) = ks := by rfl)
    (hdb : (x == ("__debug__" : Str)) = false := by decide) (he : starEach (e :: es) X.env = (false, eval e X.env) :: starEach es X.env := by rfl)
    (hpl : ((backTo pos (starEach (e :: es) X.env)).any (·.1) || (backToKw pos (keywordEach kws X.env)).any (·.1.isNone)) = false := by rfl) :
    PE X (.Call (.Name x p) (e :: es) kws pos) (tE X.K W (vCall (vFn (n + ks.length) idx dfl Fn) (lApp l r))) := by
  refine ⟨fun pins s σ H Q I h => ?_⟩
  refine wpAny_Call_Name_kw (ld_glob I hg hm ?_ hdb)
  have h2 := lapp h
  obtain ⟨m0, E0, S0, re0, rs0, p0⟩ := h2
  have h3 : tL X.K W l σ H fun vs H1 => vs.length = n ∧ tL X.K W r σ H1 fun us H2 => ∃ m S ds es, RS X.K H2 m S ∧ RVs X.K H2 m ds vs ∧ RVs X.K H2 m es us ∧ PV X.K W H2 m σ (vFn (n + ks.length) idx dfl Fn (ds ++ es) S) Q := by
    refine ⟨m0, E0, S0, re0, rs0, ?_⟩
    cases e : l E0 S0 with
    | ok ds S1 => rw [e] at p0; exact fun H1 m1 vs l1 rs1 rv => ⟨by rw [← rv.len]; exact hlen _ _ _ _ e, p0 H1 m1 vs l1 rs1 rv⟩
    | exc c fs S1 => rw [e] at p0; exact p0
    | bad => rw [e] at p0; exact p0
  refine PySem.W.callWith_KW (h₀ := X.base) I.ok.mod.kin hk hall (thn (ha.run pos pins s σ H _ I h3) fun us s1 ⟨vs, H1, I1, r1, hvn, q⟩ => ?_) hpl he
  refine thn (hkw.run pos pins s1 σ H1 _ I1 q) fun ws s2 ⟨zs, H2, I2, r2, m, S, ds, es', rs, rv, rz, q2⟩ => ⟨I2.kIn, ?_⟩
  rw [hks]
  unfold vFn at q2
  by_cases hn : (ds ++ es').length = n + ks.length
  · rw [if_pos hn] at q2
    have hun : us.length = n := by rw [← r1.length, hvn]
    have hu : (us ++ ws).length = n + ks.length := by rw [List.length_append, ← r1.length, ← r2.length, ← rv.len, ← rz.len, ← List.length_append, hn]
    have := run_call F hr hgd tk B I2 rs (rv.app rz) (r1.append r2) hu (hl _ hn) q2
    rw [List.take_append_of_le_length (by omega), List.take_of_length_le (by omega), List.drop_append_of_le_length (by omega), List.drop_of_length_le (by omega)] at this
    exact this
  · rw [if_neg hn] at q2; exact q2.elim
/-- f(k = v, ..) -/
theorem e_callK0 {kws : List Keyword} {r : FL} (F : FnG X.prog X.w X.K X.mg X.base lv f fd ps (spF X.K np Fn)) (hr : Room lv X.A) (hgd : X.A.guards = some []) (tk : Takes X W) (hg : Gl X x) (hm : X.mg x = some (.ref f)) (hk : PySem.W.keepIn X.K (.ref f) = true)
    (B : Bd X.K fd ps 0 ks idx dfl) (hl : ∀ ds : List D, ds.length = ks.length → (pick idx (ds ++ dfl)).length = np) (hkw : PK X kws (tL X.K W r))
    (hall : (backToKw pos (keywordEach kws X.env)).all (·.1.isSome) = true := by rfl) (hks : (backToKw pos (keywordEach kws X.env)).filterMap (·.1) = ks := by rfl)
    (hdb : (x == ("__debug__" : Str)) = false := by decide)
    (hpl : ((backTo pos (starEach [] X.env)).any (·.1) || (backToKw pos (keywordEach kws X.env)).any (·.1.isNone)) = false := by rfl) :
    PE X (.Call (.Name x p) [] kws pos) (tE X.K W (vCall (vFn ks.length idx dfl Fn) r)) := by
  refine ⟨fun pins s σ H Q I h => ?_⟩
  refine wpAny_Call_Name_kw (ld_glob I hg hm ?_ hdb)
  refine PySem.W.callWith_KW0 (h₀ := X.base) I.ok.mod.kin hk hall ?_ hpl
  refine thn (hkw.run pos pins s σ H _ I (tL.then (k := fun _ => vFn ks.length idx dfl Fn) h)) fun ws s2 ⟨zs, H2, I2, r2, m, E, S, ds, re, rs, rv, q2⟩ => ⟨I2.kIn, ?_⟩
  rw [hks]
  unfold vFn at q2
  by_cases hn : ds.length = ks.length
  · rw [if_pos hn] at q2
    have hu : ws.length = 0 + ks.length := by rw [← r2.length, ← rv.len, hn]; omega
    exact run_call F hr hgd tk B I2 rs rv r2 hu (hl _ hn) q2
  · rw [if_neg hn] at q2; exact q2.elim
end

/-! ## what is walked -/
inductive ResI where
  | ok (ds : List D) (src : Option Nat) (S : Sto)
  | exc (c : Str) (fs : List (Str × D)) (S : Sto)
  | bad
abbrev FI := Ev → Sto → ResI
/-- the list that is walked stands as it was -/
def srcOk (src : Option Nat) (ds : List D) (S : Sto) : Prop := match src with
  | none => True
  | some n => S[n]? = some (.lst ds)
/-- turn by turn the items of ds -/
def WK (K : PySem.W.Frag) (H₀ : Hp) (m₀ : List Addr) (J : It) (ds : List D) (src : Option Nat) : Prop := ∀ (H : Hp) (m : List Addr) (S : Sto), Le K H₀ m₀ H m → RS K H m S → srcOk src ds S →
  (∀ i, i < ds.length → J.go i H) ∧ J.stop ds.length H ∧ ∀ i x H', i < ds.length → J.yld i H x H' → ∃ m' d, Le K H m H' m' ∧ RS K H' m' S ∧ ds[i]? = some d ∧ RV K H' m' d x
def tI (K : PySem.W.Frag) (W : WX) (f : FI) : TI := fun σ H R => ∃ m E S, RE K H m E σ ∧ RS K H m S ∧ match f E S with
  | .ok ds src S1 => ∀ H' m' J, Le K H m H' m' → RS K H' m' S1 → srcOk src ds S1 → WK K H' m' J ds src → R J H'
  | .exc c fs S1 => ∀ H' m' cls dd, Le K H m H' m' → RS K H' m' S1 → RX K H' m' c fs cls dd → W cls dd σ H'
  | .bad => False
def Res.bindI (r : Res) (k : D → Sto → ResI) : ResI := match r with
  | .ok d S => k d S
  | .exc c fs S => .exc c fs S
  | .bad => .bad
@[simp] theorem Res.bindI_ok {d S} {k : D → Sto → ResI} : (Res.ok d S).bindI k = k d S := rfl
@[simp] theorem Res.bindI_exc {c fs S} {k : D → Sto → ResI} : (Res.exc c fs S).bindI k = .exc c fs S := rfl
@[simp] theorem Res.bindI_bad {k : D → Sto → ResI} : Res.bad.bindI k = .bad := rfl
def itSeq (d : D) (S : Sto) : ResI := match d with
  | .tup xs => .ok xs none S
  | .fl xs => .ok xs none S
  | .ref n => (match S[n]? with
    | some (.lst xs) => .ok xs (some n) S
    | _ => .bad)
  | _ => .bad
def iSeq (f : FE) : FI := fun E S => (f E S).bindI itSeq
def rngD (lo : Int) (n : Nat) : List D := (List.range n).map fun (i : Nat) => D.int (lo + (i : Int))
def itR1 (d : D) (S : Sto) : ResI := match d with
  | .int j => if -(2 ^ 62) ≤ j ∧ j < 2 ^ 62 then .ok (rngD 0 j.toNat) none S else .bad
  | _ => .bad
def iRng (f : FE) : FI := fun E S => (f E S).bindI itR1
section
variable {K : PySem.W.Frag} {H : Hp} {m : List Addr}
theorem wk_list {a : Addr} {ds : List D} {n : Nat} (ha : m[n]? = some a) : WK K H m (Itl K a) ds (some n) := by
  intro H1 m1 S l rs hs
  obtain ⟨a', vs, e1, h1, h2, h3⟩ := rs.list hs (.ref (l.m _ _ ha))
  cases e1
  refine ⟨fun i hi => ?_, ⟨vs, SqL.of h2, by rw [h3.len]; exact Nat.le_refl _⟩, fun i x H' hi y => ?_⟩
  · obtain ⟨v, hv, _⟩ := h3.at (List.getElem?_eq_getElem hi)
    exact ⟨vs, v, SqL.of h2, hv⟩
  · obtain ⟨rfl, y⟩ := y
    obtain ⟨d, e, rv⟩ := h3.at' (y vs (SqL.of h2))
    exact ⟨m1, d, Le.refl, rs, e, rv⟩
theorem wk_fl {a : Addr} {ds : List D} {vs : List V} (ha : SqF K H a vs) (r : RVs K H m ds vs) : WK K H m (Itl K a) ds none := by
  intro H1 m1 S l rs hs
  have h2 := (l.f _ _ ha).sq
  have h3 := r.up l
  refine ⟨fun i hi => ?_, ⟨vs, h2, by rw [h3.len]; exact Nat.le_refl _⟩, fun i x H' hi y => ?_⟩
  · obtain ⟨v, hv, _⟩ := h3.at (List.getElem?_eq_getElem hi)
    exact ⟨vs, v, h2, hv⟩
  · obtain ⟨rfl, y⟩ := y
    obtain ⟨d, e, rv⟩ := h3.at' (y vs h2)
    exact ⟨m1, d, Le.refl, rs, e, rv⟩
theorem wk_tup {a : Addr} {ds : List D} {vs : List V} (ha : SqT K H a vs) (r : RVs K H m ds vs) : WK K H m (Itt K a) ds none := by
  intro H1 m1 S l rs hs
  have h2 := l.t _ _ ha
  have h3 := r.up l
  refine ⟨fun i hi => ?_, ⟨vs, h2, by rw [h3.len]; exact Nat.le_refl _⟩, fun i x H' hi y => ?_⟩
  · obtain ⟨v, hv, _⟩ := h3.at (List.getElem?_eq_getElem hi)
    exact ⟨vs, v, h2, hv⟩
  · obtain ⟨rfl, y⟩ := y
    obtain ⟨d, e, rv⟩ := h3.at' (y vs h2)
    exact ⟨m1, d, Le.refl, rs, e, rv⟩
theorem wk_rng {lo : Int} {n : Nat} : WK K H m (Itr lo n) (rngD lo n) none := by
  intro H1 m1 S l rs hs
  have hl : (rngD lo n).length = n := by simp [rngD]
  refine ⟨fun i hi => by rw [hl] at hi; exact hi, by rw [hl]; exact Nat.le_refl _, fun i x H' hi y => ?_⟩
  obtain ⟨rfl, rfl⟩ := y
  rw [hl] at hi
  exact ⟨m1, .int (lo + i), Le.refl, rs, by simp [rngD, hi], .int _⟩
end
section
variable {X : Cx} {W : WX} {tg : Expr}
theorem i_seq {l : Expr} {f : FE} (he : PE X l (tE X.K W f)) : PI X tg l (tI X.K W (iSeq f)) := by
  refine ⟨fun pins s σ H R I h => ?_⟩
  have h' : tE X.K W f σ H fun v H1 => ∃ m S d, RS X.K H1 m S ∧ RV X.K H1 m d v ∧ match itSeq d S with
      | .ok ds src S1 => ∀ H' m' J, Le X.K H1 m H' m' → RS X.K H' m' S1 → srcOk src ds S1 → WK X.K H' m' J ds src → R J H'
      | .exc c fs S1 => ∀ H' m' cls dd, Le X.K H1 m H' m' → RS X.K H' m' S1 → RX X.K H' m' c fs cls dd → W cls dd σ H'
      | .bad => False := by
    obtain ⟨m, E, S, re, rs, p⟩ := h
    refine ⟨m, E, S, re, rs, ?_⟩
    unfold iSeq at p
    cases e : f E S with
    | ok d S1 =>
      rw [e] at p
      simp only [Res.bindI_ok] at p
      intro H1 m1 v l1 rs1 rv
      refine ⟨m1, S1, d, rs1, rv, ?_⟩
      cases e2 : itSeq d S1 with
      | ok ds src S2 => rw [e2] at p; exact fun H' m' J l' => p H' m' J (l1.trans l')
      | exc c fs S2 => rw [e2] at p; exact fun H' m' cls dd l' => p H' m' cls dd (l1.trans l')
      | bad => rw [e2] at p; exact p
    | exc c fs S1 => rw [e] at p; exact p
    | bad => rw [e] at p; exact p
  refine thn (he.run pins s σ H _ I h') fun v s1 ⟨x, H1, I1, r1, m, S, d, rs, rd, q⟩ => ?_
  have newIt : FpOk X pins H1 s1.heap.objs.size := I1.fpOk (Nat.le_refl _) (I1.hok.fresh (Nat.le_refl _))
  have fps : ∀ b ∈ [s1.heap.objs.size], FpOk X pins H1 b := fun b hb => by
    have e : b = s1.heap.objs.size := by simpa using hb
    subst e
    exact newIt
  cases rd with
  | tup h1 h2 =>
    rename_i a xs vs
    cases r1
    obtain ⟨its, rv, p, hz⟩ := I1.tuple h1
    refine wpAny_pyIter_tuple (show s1.heap.IsTuple a its.toArray from p) ?_
    exact ⟨_, _, _, _, H1, rfl, I1.kept (t' := s1.toks) fun b o e => Heap.get?_push_of_some _ e, turn_tuple a _, ⟨_, Heap.get?_push_size _ rfl, rfl, rfl⟩, fps, q H1 m _ Le.refl rs True.intro (wk_tup h1 h2)⟩
  | fl h1 h2 =>
    rename_i a xs vs
    cases r1
    obtain ⟨its, rv, p, hz⟩ := I1.list h1.sq
    refine wpAny_pyIter_list p.isList ?_
    exact ⟨_, _, _, _, H1, rfl, I1.kept (t' := s1.toks) fun b o e => Heap.get?_push_of_some _ e, turn_list a _, ⟨_, Heap.get?_push_size _ rfl, rfl, rfl⟩, fps, q H1 m _ Le.refl rs True.intro (wk_fl h1 h2)⟩
  | ref h1 =>
    rename_i n a
    simp only [itSeq] at q
    cases e : S[n]? with
    | none => simp only [e] at q
    | some c =>
      cases c with
      | lst xs =>
        simp only [e] at q
        obtain ⟨a', vs, e1, q2, q3, q4⟩ := rs.list e (.ref h1)
        cases e1
        cases r1
        obtain ⟨its, rv, p, hz⟩ := I1.list (SqL.of q3)
        refine wpAny_pyIter_list p.isList ?_
        exact ⟨_, _, _, _, H1, rfl, I1.kept (t' := s1.toks) fun b o e => Heap.get?_push_of_some _ e, turn_list _ _, ⟨_, Heap.get?_push_size _ rfl, rfl, rfl⟩, fps, q H1 m _ Le.refl rs e (wk_list h1)⟩
      | _ => simp only [e] at q
  | _ => exact (show False from q).elim
theorem i_rng {a : Expr} {f : FE} {p pos : Pos} (hg : Gl X "range") (hm : X.mg "range" = none) (he : PE X a (tE X.K W f)) (hs : starEach [a] X.env = [(false, eval a X.env)] := by rfl) : PI X tg (.Call (.Name "range" p) [a] [] pos) (tI X.K W (iRng f)) := by
  refine ⟨fun pins s σ H R I h => (pi_range1 hg hm (pa_cons he pa_nil (by rw [hs]; rfl)) hs).run pins s σ H R I ?_⟩
  obtain ⟨m, E, S, re, rs, p⟩ := h
  show tE X.K W f σ H _
  refine ⟨m, E, S, re, rs, ?_⟩
  unfold iRng at p
  cases e : f E S with
  | ok d S1 =>
    rw [e] at p
    simp only [Res.bindI_ok] at p
    intro H1 m1 v l1 rs1 rv
    cases rv with
    | int j =>
      have p' : match (if -(2 ^ 62) ≤ j ∧ j < 2 ^ 62 then ResI.ok (rngD 0 j.toNat) none S1 else ResI.bad) with
        | .ok ds src S1 => ∀ H' m' J, Le X.K H m H' m' → RS X.K H' m' S1 → srcOk src ds S1 → WK X.K H' m' J ds src → R J H'
        | .exc c fs S1 => ∀ H' m' cls dd, Le X.K H m H' m' → RS X.K H' m' S1 → RX X.K H' m' c fs cls dd → W cls dd σ H'
        | .bad => False := p
      by_cases hz : -(2 ^ 62) ≤ j ∧ j < 2 ^ 62
      · rw [if_pos hz] at p'
        exact ⟨j, rfl, hz.1, hz.2, p' H1 m1 _ l1 rs1 True.intro wk_rng⟩
      · rw [if_neg hz] at p'; exact p'.elim
    | _ => exact (show False from p).elim
  | exc c fs S1 => rw [e] at p; exact p
  | bad => rw [e] at p; exact p
end
end Z
namespace Z
open PySem PySem.Spec PyProof.Rows L2

/-! ## for -/
def srcB (src : Option Nat) (ds : List D) (S : Sto) (k : SRes) : SRes := match src with
  | none => k
  | some n => (match S[n]? with
    | some (.lst xs) => if xs.length = ds.length then k else .bad
    | _ => .bad)
/-- the list at src is ds: asked only where a list is walked (by a proof, not by a computation) -/
noncomputable def srcIf {α : Type} (src : Option Nat) (ds : List D) (S : Sto) (k bad : α) : α := open Classical in if srcOk src ds S then k else bad
theorem srcIf_ok {α : Type} {src : Option Nat} {ds : List D} {S : Sto} {k bad : α} (h : srcOk src ds S) : srcIf src ds S k bad = k := by
  unfold srcIf
  rw [if_pos h]
@[simp] theorem srcIf_none {α : Type} {ds : List D} {S : Sto} {k bad : α} : srcIf none ds S k bad = k := srcIf_ok True.intro
theorem srcIf_some {α : Type} {n : Nat} {ds : List D} {S : Sto} {k bad : α} (h : S[n]? = some (.lst ds)) : srcIf (some n) ds S k bad = k := srcIf_ok h
noncomputable def forS (p : Pat) (b : FS) (src : Option Nat) (all : List D) : List D → FS
  | [], E, S => srcIf src all S (.nx E S) .bad
  | d :: r, E, S => srcIf src all S (match p.put d E with
    | none => .bad
    | some E1 => (match b E1 S with
      | .nx E2 S2 => forS p b src all r E2 S2
      | .cnt E2 S2 => forS p b src all r E2 S2
      | .brk E2 S2 => .nx E2 S2
      | x => x)) .bad
noncomputable def sFor (it : FI) (p : Pat) (b : FS) : FS := fun E S => match it E S with
  | .ok ds src S1 => forS p b src ds ds E S1
  | .exc c fs S1 => .exc c fs E S1
  | .bad => .bad
section
variable {X : Cx} {W : WX} {pos : Pos}
theorem srcIf_split {α : Type} {src : Option Nat} {ds : List D} {S : Sto} {k bad : α} {P : α → Prop} (h : P (srcIf src ds S k bad)) (hb : ¬ P bad) : srcOk src ds S ∧ P k := by
  unfold srcIf at h
  by_cases e : srcOk src ds S
  · rw [if_pos e] at h; exact ⟨e, h⟩
  · rw [if_neg e] at h; exact absurd h hb
theorem s_for {tg iter : Expr} {body : List Stmt} {it : FI} {p : Pat} {g : TG} {b : FS} (hp : PassesOwn (model X.prog X.w) X.A X.env X.xe) (hc : X.calm = true) (hi : PI X tg iter (tI X.K W it)) (hg : PG X tg g) (hgp : GP X.K p g) (hb : PSs X body (tS X.K W b))
    (hs : ∀ x, foldedSetIterable iter X.env x = pure x := by intro _; rfl) : PS X (.For tg iter body [] pos) (tS X.K W (sFor it p b)) := by
  refine ⟨fun pins s σ H D I h => (ps_for hp hc hi hg hb hs).run pins s σ H D I ?_⟩
  obtain ⟨m, E, S, re, rs, q⟩ := h
  refine ⟨m, E, S, re, rs, ?_⟩
  unfold sFor at q
  cases e : it E S with
  | exc c fs S1 => rw [e] at q; exact fun H1 m1 cls dd l rs1 rx => q H1 m1 σ cls dd l (re.up l) rs1 rx
  | bad => rw [e] at q; exact q
  | ok ds src S1 =>
    rw [e] at q
    intro H1 m1 J l1 rs1 so wk
    have q1 := PQ.re l1 q
    dsimp only at q1
    -- what holds ahead of turn i
    refine ⟨fun i mm σ' H' => mm = ds.length - i ∧ i ≤ ds.length ∧ ∃ m' E' S', Le X.K H1 m1 H' m' ∧ RE X.K H' m' E' σ' ∧ RS X.K H' m' S' ∧ PQ X.K W H' m' (forS p b src ds (ds.drop i) E' S') D, ⟨_, rfl, Nat.zero_le _, m1, E, S1, Le.refl, re.up l1, rs1, by simpa using q1⟩, ?_⟩
    rintro i mm σ' H' ⟨rfl, hi, m', E', S', l', re', rs', q'⟩
    by_cases hlt : i < ds.length
    · rw [List.drop_eq_getElem_cons hlt] at q'
      unfold forS at q'
      obtain ⟨so', q''⟩ := srcIf_split (P := fun r => PQ X.K W H' m' r D) q' (fun z => z)
      obtain ⟨w1, w2, w3⟩ := wk H' m' S' l' rs' so'
      refine .inr ⟨w1 i hlt, fun σ'' H'' => ∃ m'' E'' S'', Le X.K H1 m1 H'' m'' ∧ RE X.K H'' m'' E'' σ'' ∧ RS X.K H'' m'' S'' ∧ PQ X.K W H'' m'' (forS p b src ds (ds.drop (i + 1)) E'' S'') D,
        fun σ'' H'' ⟨m'', E'', S'', a1, a2, a3, a4⟩ => ⟨ds.length - (i + 1), by omega, rfl, hlt, m'', E'', S'', a1, a2, a3, a4⟩, fun x H2 y => ?_⟩
      obtain ⟨m2, d, l2, rs2, ed, rd⟩ := w3 i x H2 hlt y
      have ed2 : ds[i] = d := by
        rw [List.getElem?_eq_getElem hlt] at ed
        exact Option.some.inj ed
      rw [ed2] at q''
      cases ep : p.put d E' with
      | none => simp only [ep] at q''; exact q''.elim
      | some E2 =>
        simp only [ep] at q''
        refine hgp d x σ' H2 m2 E' E2 _ rd (re'.up l2) ep fun σ2 re2 _ => ?_
        refine ⟨m2, E2, S', re2, rs2, ?_⟩
        have q3 := PQ.re l2 q''
        cases eb : b E2 S' with
        | nx E3 S3 => rw [eb] at q3; exact fun H3 m3 σ3 l3 re3 rs3 => ⟨m3, E3, S3, (l'.trans l2).trans l3, re3, rs3, PQ.re l3 q3⟩
        | cnt E3 S3 => rw [eb] at q3; exact fun H3 m3 σ3 l3 re3 rs3 => ⟨m3, E3, S3, (l'.trans l2).trans l3, re3, rs3, PQ.re l3 q3⟩
        | brk E3 S3 => rw [eb] at q3; exact q3
        | ret d3 S3 => rw [eb] at q3; exact q3
        | exc c fs E3 S3 => rw [eb] at q3; exact q3
        | bad => rw [eb] at q3; exact q3
    · have e : i = ds.length := by omega
      subst e
      rw [List.drop_length] at q'
      unfold forS at q'
      obtain ⟨so', q''⟩ := srcIf_split (P := fun r => PQ X.K W H' m' r D) q' (fun z => z)
      obtain ⟨w1, w2, w3⟩ := wk H' m' S' l' rs' so'
      exact .inl ⟨w2, q'' H' m' σ' Le.refl re' rs'⟩

/-! ## while: with a number of turns that is not reached -/
def whileS (t : FB) (b : FS) : Nat → FS
  | 0, _, _ => .bad
  | n + 1, E, S => (t E S).s E fun c S1 => if c then (match b E S1 with
    | .nx E2 S2 => whileS t b n E2 S2
    | .cnt E2 S2 => whileS t b n E2 S2
    | .brk E2 S2 => .nx E2 S2
    | x => x) else .nx E S1
/-- it comes to an end: the number of turns is some one -/
noncomputable def sWhile (t : FB) (b : FS) : FS := fun E S => open Classical in if h : ∃ n, whileS t b n E S ≠ .bad then whileS t b h.choose E S else .bad
theorem whileS_more {t : FB} {b : FS} : ∀ (n k : Nat) (E : Ev) (S : Sto), whileS t b n E S ≠ .bad → whileS t b (n + k) E S = whileS t b n E S
  | 0, _, _, _, h => absurd rfl h
  | n + 1, k, E, S, h => by
    rw [Nat.add_right_comm]
    unfold whileS at h ⊢
    cases e : t E S with
    | exc c fs S1 => rfl
    | bad => rfl
    | ok c S1 =>
      simp only [e, ResB.s_ok] at h ⊢
      cases c with
      | false => rfl
      | true =>
        simp only [if_true] at h ⊢
        cases eb : b E S1 with
        | nx E2 S2 => simp only [eb] at h ⊢; exact whileS_more n k E2 S2 h
        | cnt E2 S2 => simp only [eb] at h ⊢; exact whileS_more n k E2 S2 h
        | _ => simp only [eb]
theorem sWhile_eq {t : FB} {b : FS} {n : Nat} {E : Ev} {S : Sto} (h : whileS t b n E S ≠ .bad) : sWhile t b E S = whileS t b n E S := by
  unfold sWhile
  have ex : ∃ n, whileS t b n E S ≠ .bad := ⟨n, h⟩
  rw [dif_pos ex]
  have h2 := ex.choose_spec
  rcases Nat.le_total ex.choose n with z | z
  · obtain ⟨k, e⟩ := Nat.le.dest z
    rw [← whileS_more _ k E S h2, e]
  · obtain ⟨k, e⟩ := Nat.le.dest z
    have := whileS_more n k E S h
    rw [e] at this
    exact this
theorem s_while {c : Expr} {body : List Stmt} {t : FB} {b : FS} (hp : PassesOwn (model X.prog X.w) X.A X.env X.xe) (hc : PT X c (tT X.K W t)) (hb : PSs X body (tS X.K W b)) : PS X (.While c body [] pos) (tS X.K W (sWhile t b)) := by
  refine ⟨fun pins s σ H D I h => (ps_while hp hc hb).run pins s σ H D I ?_⟩
  obtain ⟨m, E, S, re, rs, q⟩ := h
  unfold sWhile at q
  by_cases ex : ∃ n, whileS t b n E S ≠ .bad
  · rw [dif_pos ex] at q
    refine ⟨fun mm σ' H' => ∃ m' E' S', RE X.K H' m' E' σ' ∧ RS X.K H' m' S' ∧ PQ X.K W H' m' (whileS t b mm E' S') D, ⟨_, m, E, S, re, rs, q⟩, ?_⟩
    rintro mm σ' H' ⟨m', E', S', re', rs', q'⟩
    cases mm with
    | zero => exact q'.elim
    | succ n =>
      unfold whileS at q'
      refine (tT.stm (k := fun E c S1 => if c then (match b E S1 with
        | .nx E2 S2 => whileS t b n E2 S2
        | .cnt E2 S2 => whileS t b n E2 S2
        | .brk E2 S2 => .nx E2 S2
        | x => x) else .nx E S1) ⟨m', E', S', re', rs', q'⟩).mono fun cb H2 ⟨m2, E2, S2, re2, rs2, q2⟩ => ?_
      cases cb with
      | false => exact iteF (q2 H2 m2 σ' Le.refl re2 rs2)
      | true =>
        refine iteT ⟨fun σ3 H3 => ∃ m3 E3 S3, RE X.K H3 m3 E3 σ3 ∧ RS X.K H3 m3 S3 ∧ PQ X.K W H3 m3 (whileS t b n E3 S3) D, fun σ3 H3 z => ⟨n, Nat.lt_succ_self n, z⟩, ?_⟩
        refine ⟨m2, E2, S2, re2, rs2, ?_⟩
        simp only [if_true] at q2
        cases eb : b E2 S2 with
        | nx E3 S3 => rw [eb] at q2; exact fun H3 m3 σ3 l3 re3 rs3 => ⟨m3, E3, S3, re3, rs3, PQ.re l3 q2⟩
        | cnt E3 S3 => rw [eb] at q2; exact fun H3 m3 σ3 l3 re3 rs3 => ⟨m3, E3, S3, re3, rs3, PQ.re l3 q2⟩
        | brk E3 S3 => rw [eb] at q2; exact q2
        | ret d3 S3 => rw [eb] at q2; exact q2
        | exc c fs E3 S3 => rw [eb] at q2; exact q2
        | bad => rw [eb] at q2; exact q2
  · rw [dif_neg ex] at q; exact q.elim
end

/-! ## list comprehensions of one clause -/
def wipeE (E : Ev) : List Nat → Ev
  | [] => E
  | v :: vs => (wipeE E vs).set v none
theorem RE.wipe {K H m E σ} (h : RE K H m E σ) : ∀ vs : List Nat, RE K H m (wipeE E vs) (L2.wipe σ vs)
  | [] => h
  | v :: vs => (RE.wipe h vs).unset v
def bTrue : FB := fun _ S => .ok true S
/-- the items' turns: the new list is cell n -/
noncomputable def lcS (p : Pat) (t : FB) (e : FE) (src : Option Nat) (all : List D) (n : Nat) (E0 : Ev) : List D → Sto → Res
  | [], S => srcIf src all S (.ok (.ref n) S) .bad
  | d :: r, S => srcIf src all S (match p.put d E0 with
    | none => .bad
    | some E1 => (match t E1 S with
      | .ok true S2 => (match e E1 S2 with
        | .ok y S3 => (match S3[n]? with
          | some (.lst acc) => if acc.length < 100000 then lcS p t e src all n E0 r (S3.set n (.lst (acc ++ [y]))) else .bad
          | _ => .bad)
        | _ => .bad)
      | .ok false S2 => lcS p t e src all n E0 r S2
      | _ => .bad)) .bad
noncomputable def vLc (it : FI) (p : Pat) (own : List Nat) (t : FB) (e : FE) : FE := fun E S => match it E S with
  | .ok ds src S1 => lcS p t e src ds S1.length (wipeE E own) ds (S1 ++ [.lst []])
  | .exc c fs S1 => .exc c fs S1
  | .bad => .bad
abbrev wNo : WX := fun _ _ _ _ => False
section
variable {X : Cx} {W : WX} {pos : Pos}
theorem ts_nil : PTs X [] (fun _ H Q => Q true H) := pts_nil
/-- no test, or one -/
def TsOk (X : Cx) (ifs : List Expr) (t : FB) (tt : TT) : Prop := PTs X ifs tt ∧ ∀ σ H Q, tT X.K wNo t σ H Q → tt σ H Q
theorem srcOk_push {src : Option Nat} {ds : List D} {S : Sto} {c : Cell} (h : srcOk src ds S) : srcOk src ds (S ++ [c]) := by
  cases src with
  | none => trivial
  | some n =>
    have h' : S[n]? = some (.lst ds) := h
    show (S ++ [c])[n]? = some (.lst ds)
    rw [List.getElem?_append_left (List.getElem?_eq_some_iff.mp h').1]
    exact h'
theorem e_lc {elt tg iter : Expr} {ifs : List Expr} {scope : Scope} {own : List (Str × Nat)} {it : FI} {p : Pat} {g : TG} {t : FB} {tt : TT} {e : FE} (hc : X.calm = true) (hN : X.N.Nodup) (hi : PI X tg iter (tI X.K W it)) (ok : BlkOk X.N X.env.scope scope own)
    (hg : ∀ (s : Shared) (H : Hp) (C : Addr) (cl : List (Str × Addr)) (fp : List Addr), PG (X.blk s H scope (compEnvC scope cl C X.env) fp) tg g) (hgp : GP X.K p g) (hown : ∀ i ∈ p.slots, i ∈ own.map (·.2))
    (ht : ∀ (s : Shared) (H : Hp) (C : Addr) (cl : List (Str × Addr)) (fp : List Addr), PTs (X.blk s H scope (compEnvC scope cl C X.env) fp) ifs tt) (htt : ∀ σ H Q, tT X.K wNo t σ H Q → tt σ H Q)
    (he : ∀ (s : Shared) (H : Hp) (C : Addr) (cl : List (Str × Addr)) (fp : List Addr), PE (X.blk s H scope (compEnvC scope cl C X.env) fp) elt (tE X.K wNo e)) (hs : ∀ x, foldedSetIterable iter X.env x = pure x := by intro _; rfl) :
    PE X (.ListComp elt [⟨tg, iter, ifs, 0⟩] scope pos) (tE X.K W (vLc it p (own.map (·.2)) t e)) := by
  refine ⟨fun pins s σ H Q I h => (pe_lc hc hN hi ok hg ht he hs).run pins s σ H Q I ?_⟩
  exact lc_read h hgp hown htt
where
  lc_read {K : PySem.W.Frag} {W : WX} {it : FI} {p : Pat} {g : TG} {t : FB} {tt : TT} {e : FE} {own : List Nat} {σ : L2.St} {H : Hp} {Q : VK} (h : tE K W (vLc it p own t e) σ H Q) (hgp : GP K p g) (hown : ∀ i ∈ p.slots, i ∈ own)
      (htt : ∀ σ H Q, tT K wNo t σ H Q → tt σ H Q) : tLc (tI K W it) g tt (tE K wNo e) own σ H Q := by
    obtain ⟨m, E, S, re, rs, q⟩ := h
    refine ⟨m, E, S, re, rs, ?_⟩
    unfold vLc at q
    cases ei : it E S with
    | exc c fs S1 => rw [ei] at q; exact q
    | bad => rw [ei] at q; exact q
    | ok ds src S1 =>
      rw [ei] at q
      intro H1 m1 J l1 rs1 so wk D0 hD0
      have q1 := PV.re l1 q
      dsimp only at q1
      obtain ⟨l2, rs2⟩ := rs1.alloc (ds := []) (vs := []) hD0 .nil
      have q2 := PV.re l2 q1
      have hn : (m1 ++ [D0])[S1.length]? = some D0 := by rw [← rs1.len]; simp
      refine ⟨fun i mm H' => mm = ds.length - i ∧ i ≤ ds.length ∧ ∃ m' S', Le K H1 m1 H' m' ∧ m'[S1.length]? = some D0 ∧ RE K H' m' E σ ∧ RS K H' m' S' ∧ PV K W H' m' σ (lcS p t e src ds S1.length (wipeE E own) (ds.drop i) S') Q,
        ⟨_, rfl, Nat.zero_le _, _, _, l2, hn, (re.up l1).up l2, rs2, by simpa using q2⟩, ?_⟩
      rintro i mm H' ⟨rfl, hi, m', S', l', hn', re', rs', q'⟩
      by_cases hlt : i < ds.length
      · rw [List.drop_eq_getElem_cons hlt] at q'
        unfold lcS at q'
        obtain ⟨so', q''⟩ := srcIf_split (P := fun r => PV K W H' m' σ r Q) q' (fun z => z)
        obtain ⟨w1, w2, w3⟩ := wk H' m' S' l' rs' so'
        refine .inr ⟨w1 i hlt, fun H'' => ∃ m'' S'', Le K H1 m1 H'' m'' ∧ m''[S1.length]? = some D0 ∧ RE K H'' m'' E σ ∧ RS K H'' m'' S'' ∧ PV K W H'' m'' σ (lcS p t e src ds S1.length (wipeE E own) (ds.drop (i + 1)) S'') Q,
          fun H'' ⟨m'', S'', a1, a2, a3, a4, a5⟩ => ⟨ds.length - (i + 1), by omega, rfl, hlt, m'', S'', a1, a2, a3, a4, a5⟩, fun x H2 y => ?_⟩
        obtain ⟨m2, d, l2, rs2, ed, rd⟩ := w3 i x H2 hlt y
        have ed2 : ds[i] = d := by
          rw [List.getElem?_eq_getElem hlt] at ed
          exact Option.some.inj ed
        rw [ed2] at q''
        cases ep : p.put d (wipeE E own) with
        | none => simp only [ep] at q''; exact q''.elim
        | some E2 =>
          simp only [ep] at q''
          refine hgp d x _ H2 m2 _ E2 _ rd (RE.wipe (re'.up l2) own) ep fun σ2 re2 fits => ⟨?_, ?_⟩
          · rw [fits own hown, wipe_twice]
          · have q3 := PV.re l2 q''
            refine htt σ2 H2 _ ⟨m2, E2, S', re2, rs2, ?_⟩
            cases et : t E2 S' with
            | exc c fs S3 => rw [et] at q3; exact q3.elim
            | bad => rw [et] at q3; exact q3.elim
            | ok bt S3 =>
              rw [et] at q3
              intro H3 m3 l3 rs3
              have q4 := PV.re l3 q3
              cases bt with
              | false => exact iteF ⟨m3, S3, (l'.trans l2).trans l3, l3.m _ _ (l2.m _ _ hn'), (re'.up l2).up l3, rs3, q4⟩
              | true =>
                refine iteT ⟨m3, E2, S3, re2.up l3, rs3, ?_⟩
                dsimp only at q4
                cases ee : e E2 S3 with
                | exc c fs S4 => simp only [ee] at q4; exact q4.elim
                | bad => simp only [ee] at q4; exact q4.elim
                | ok y S4 =>
                  simp only [ee] at q4
                  intro H4 m4 vy l4 rs4 ry
                  have hn4 : m4[S1.length]? = some D0 := l4.m _ _ (l3.m _ _ (l2.m _ _ hn'))
                  cases ec : S4[S1.length]? with
                  | none => simp only [ec] at q4; exact q4.elim
                  | some c =>
                    cases c with
                    | lst acc =>
                      simp only [ec] at q4
                      by_cases hz : acc.length < 100000
                      · rw [if_pos hz] at q4
                        obtain ⟨a', vs, e1, h1, h2, h3⟩ := rs4.list ec (.ref hn4)
                        cases e1
                        obtain ⟨l5, rs5⟩ := rs4.write ec hn4 h2 (h3.app (.cons ry .nil))
                        refine ⟨vs, h2, by rw [← h3.len]; exact Nat.lt_trans hz (by decide), ?_⟩
                        have l6 := ((l'.trans l2).trans l3).trans (l4.trans l5)
                        exact ⟨m4, _, l6, hn4, (((re'.up l2).up l3).up l4).up l5, rs5, PV.re (l4.trans l5) q4⟩
                      · rw [if_neg hz] at q4; exact q4.elim
                    | _ => simp only [ec] at q4; exact q4.elim
      · have e0 : i = ds.length := by omega
        subst e0
        rw [List.drop_length] at q'
        unfold lcS at q'
        obtain ⟨so', q''⟩ := srcIf_split (P := fun r => PV K W H' m' σ r Q) q' (fun z => z)
        obtain ⟨w1, w2, w3⟩ := wk H' m' S' l' rs' so'
        exact .inl ⟨w2, q'' H' m' _ Le.refl rs' (.ref hn')⟩
end
end Z
namespace Z
open PySem PySem.Spec PyProof.Rows L2

/-! ## classes -/
inductive CK where
  | ty (n : String)
  | own (c : Str)
  deriving DecidableEq
def ckV (K : PySem.W.Frag) : CK → Value
  | .ty n => .type n
  | .own c => .ref (He.ga K c)
/-- told answers of isinstance beyond the language's own classes -/
abbrev Tab := List ((CK × CK) × Bool)
def isOf (tab : Tab) (t c : CK) : Option Bool := match t, c with
  | .ty a, .ty b => kitB a b
  | _, _ => tab.lookup (t, c)
def isAny (tab : Tab) (t : CK) : List CK → Option Bool
  | [] => some false
  | c :: r => match isOf tab t c with
    | some true => some true
    | some false => isAny tab t r
    | none => none
/-- checked of the written part -/
def tabB (K : PySem.W.Frag) (tab : Tab) : Bool := tab.all fun p => decide (PySem.W.kitOne K (ckV K p.1.1) (ckV K p.1.2) = some p.2)
theorem tab_mem {k : CK × CK} {b : Bool} : ∀ {tab : Tab}, tab.lookup k = some b → (k, b) ∈ tab
  | [], h => by cases h
  | (k', b') :: r, h => by
    rw [List.lookup_cons] at h
    by_cases e : k == k'
    · simp only [e] at h
      cases h
      have e' : k = k' := by simpa using e
      rw [e']
      exact List.mem_cons_self
    · simp only [e] at h
      exact List.mem_cons_of_mem _ (tab_mem h)
theorem isOf_ok {K : PySem.W.Frag} {tab : Tab} (h : tabB K tab = true) {t c : CK} {b : Bool} (e : isOf tab t c = some b) : PySem.W.kitOne K (ckV K t) (ckV K c) = some b := by
  have key : tab.lookup (t, c) = some b → PySem.W.kitOne K (ckV K t) (ckV K c) = some b := by
    intro e
    unfold tabB at h
    rw [List.all_eq_true] at h
    have hm := tab_mem e
    exact of_decide_eq_true (h _ hm)
  cases t with
  | ty a =>
    cases c with
    | ty b' => exact kit_ty e
    | own _ => exact key e
  | own _ => exact key e
theorem isAny_ok {K : PySem.W.Frag} {tab : Tab} (h : tabB K tab = true) {t : CK} : ∀ {cs : List CK} {b : Bool}, isAny tab t cs = some b → PySem.W.kitAny K (ckV K t) (cs.map (ckV K)) = some b
  | [], b, e => by simp [isAny] at e; subst e; rfl
  | c :: r, b, e => by
    unfold isAny at e
    cases q : isOf tab t c with
    | none => simp [q] at e
    | some b0 =>
      have h1 := isOf_ok h q
      cases b0 with
      | true => simp [q] at e; subst e; exact kitAny_cons h1 (fun z => by cases z) (fun _ => rfl)
      | false => simp only [q] at e; exact kitAny_cons h1 (fun _ => isAny_ok h e) (fun z => by cases z)
/-- what is asked of an exception class of the text -/
def excB (K : PySem.W.Frag) (c : Str) : Bool :=
  (PySem.W.clsIn K (He.ga K c)).isSome && decide (PySem.W.findIn K (.ref (He.ga K c)) "__getattribute__" = some (some (.builtin "BaseException.__getattribute__"))) &&
  decide (PySem.W.findIn K (.ref (He.ga K c)) "__getattr__" = some none) && decide (PySem.W.subIn K (.ref (He.ga K c)) (.type "BaseException") = some true) &&
  decide (PySem.W.findIn K (.ref (He.ga K c)) "__class__" = some (some (.builtin "object.__class__"))) && decide (PySem.W.mroIn K (He.ga K c) (.type "object") = some true) && PySem.W.hasDictIn K (He.ga K c) &&
  decide (PySem.W.typeIn K (.ref (He.ga K c)) = some (.type "type")) && PySem.W.keepIn K (.ref (He.ga K c))
/-- .. of the language's own descriptor -/
def dscB (K : PySem.W.Frag) : Bool := decide (PySem.W.specialIn K (.builtin "object.__class__") "__get__" = some (some (.builtin "getset_descriptor.__get__"))) && decide (PySem.W.takesIn K (.builtin "object.__class__") = some true)
structure ExcF (K : PySem.W.Frag) (c : Str) : Prop where
  cls : (PySem.W.clsIn K (He.ga K c)).isSome = true
  ga : PySem.W.findIn K (.ref (He.ga K c)) "__getattribute__" = some (some (.builtin "BaseException.__getattribute__"))
  gg : PySem.W.findIn K (.ref (He.ga K c)) "__getattr__" = some none
  sub : PySem.W.subIn K (.ref (He.ga K c)) (.type "BaseException") = some true
  cl : PySem.W.findIn K (.ref (He.ga K c)) "__class__" = some (some (.builtin "object.__class__"))
  mro : PySem.W.mroIn K (He.ga K c) (.type "object") = some true
  hd : PySem.W.hasDictIn K (He.ga K c) = true
  ty : PySem.W.typeIn K (.ref (He.ga K c)) = some (.type "type")
  kp : PySem.W.keepIn K (.ref (He.ga K c)) = true
theorem excB_ok {K : PySem.W.Frag} {c : Str} (h : excB K c = true) : ExcF K c := by
  unfold excB at h
  simp only [Bool.and_eq_true, decide_eq_true_eq] at h
  obtain ⟨⟨⟨⟨⟨⟨⟨⟨h1, h2⟩, h3⟩, h4⟩, h5⟩, h6⟩, h7⟩, h8⟩, h9⟩ := h
  exact ⟨h1, h2, h3, h4, h5, h6, h7, h8, h9⟩
/-- a value's class -/
def tyC (d : D) (S : Sto) : Option CK := match d with
  | .non => some (.ty "NoneType")
  | .bl _ => some (.ty "bool")
  | .int _ => some (.ty "int")
  | .str _ => some (.ty "str")
  | .tup _ => some (.ty "tuple")
  | .fl _ => some (.ty "list")
  | .emp => some (.ty "dict")
  | .ref n => (match S[n]? with
    | some (.lst _) => some (.ty "list")
    | some (.exc c _) => some (.own c)
    | _ => none)
def gIsi (tab : Tab) (cs : List CK) (d : D) (S : Sto) : Res := match tyC d S with
  | some t => (match isAny tab t cs with
    | some b => .ok (.bl b) S
    | none => .bad)
  | none => .bad
/-- the classes whose values may be asked -/
structure ClsOk (K : PySem.W.Frag) (tab : Tab) : Prop where
  tb : tabB K tab = true
  ds : dscB K = true
  ex : ∀ c k b, tab.lookup (.own c, k) = some b → ExcF K c
section
variable {X : Cx} {W : WX} {pos p : Pos}
theorem exc_inst {pins : List (Addr × Obj)} {σ : L2.St} {H : Hp} {s : Shared} {a : Addr} {c : Str} {dd : Option Addr} (I : Inv X pins σ H s) (h : H a = some (exv (.ref (He.ga X.K c)) dd a)) (hd : ∀ d, dd = some d → ∃ gs, H d = some (.xd gs)) :
    ∃ oe od, PySem.W.InstAt s.heap a oe (He.ga X.K c) od ∧ ((dd = none ∧ od = none) ∨ ∃ d o, dd = some d ∧ od = some o ∧ s.heap.get? d = some o) := by
  obtain ⟨⟨oe, vs, ho, hz, hv⟩, _, _⟩ := I.hok a _ h
  have nc : PySem.W.notCls oe = true := by unfold PySem.W.notCls; rw [hv] <;> rfl
  cases dd with
  | none => exact ⟨oe, none, ⟨ho, hz.1, nc, by rw [hz.2]; trivial⟩, .inl ⟨rfl, rfl⟩⟩
  | some d =>
    obtain ⟨gs, hg⟩ := hd d rfl
    have hx : ObjOk X.prog X.w H s.heap d (.xd gs) := I.hok d _ hg
    obtain ⟨mA, hns, hr⟩ := hx
    obtain ⟨od, hod, hl⟩ := lookIn_ns hns
    exact ⟨oe, some od, ⟨ho, hz.1, nc, by rw [hz.2]; exact hod⟩, .inr ⟨d, od, rfl, rfl, hod⟩⟩
theorem exc_there {K : PySem.W.Frag} {H : Hp} {m : List Addr} {S : Sto} {n : Nat} {c : Str} {fs : List (Str × D)} {v : V} (rs : RS K H m S) (e : S[n]? = some (.exc c fs)) (r : RV K H m (.ref n) v) :
    ∃ a dd, v = .ref a ∧ H a = some (exv (.ref (He.ga K c)) dd a) ∧ ((fs = [] ∧ dd = none) ∨ ∃ d gs, dd = some d ∧ H d = some (.xd gs) ∧ RFs K H m fs gs) := by
  cases r with
  | ref hm =>
    obtain ⟨a, h1, dd, h2, h3⟩ := rs.at_ n _ e
    rw [hm] at h1
    cases h1
    exact ⟨_, dd, rfl, h2, h3.2⟩
/-- what isinstance asks of such a value -/
theorem kitD {pins : List (Addr × Obj)} {σ : L2.St} {H : Hp} {s : Shared} {m : List Addr} {S : Sto} {d : D} {x : V} {u : Value} {t : CK} {tab : Tab} {k : CK} {b : Bool} (CO : ClsOk X.K tab) (I : Inv X pins σ H s) (rs : RS X.K H m S) (rd : RV X.K H m d x) (rx : RelV x u) (ht : tyC d S = some t) (hk : isOf tab t k = some b) :
    ∃ P : Heap → Prop, PySem.W.KitX X.K u (ckV X.K t) P ∧ P s.heap ∧ u ≠ .builtin "__main__.__loader__#opaque" := by
  have lcase : ∀ {a : Addr} {vs : List V}, SqL X.K H a vs → TyX X.K H (.ref a) (.type "list") := by
    intro a vs h
    rcases h with (h | ⟨o, h⟩) | ⟨o, its, n, h1, h2, _⟩
    · exact .base (.lst h)
    · exact .base (.frz h)
    · exact .kList h1 h2
  cases rd with
  | non => cases ht; exact kit_of I rx (.base .non)
  | bl b => cases ht; exact kit_of I rx (.base (.bl b))
  | int b => cases ht; exact kit_of I rx (.base (.int b))
  | str b => cases ht; exact kit_of I rx (.base (.str b))
  | tup h1 h2 =>
    cases ht
    rcases h1 with (h | ⟨o, h⟩) | ⟨o, its, n, h1, h2, _⟩
    · exact kit_of I rx (.base (.tup h))
    · exact kit_of I rx (.fTuple h)
    · exact kit_of I rx (.kTuple h1 h2)
  | fl h1 h2 => cases ht; exact kit_of I rx (lcase h1.sq)
  | emp h1 => cases ht; exact kit_of I rx (.base (.dK h1))
  | ref h1 =>
    rename_i n a
    cases e : S[n]? with
    | none => simp [tyC, e] at ht
    | some c =>
      cases c with
      | lst xs =>
        simp only [tyC, e, Option.some.injEq] at ht
        subst ht
        obtain ⟨a', vs, e1, q2, q3, q4⟩ := rs.list e (.ref h1)
        cases e1
        exact kit_of I rx (lcase (SqL.of q3))
      | exc c fs =>
        simp only [tyC, e, Option.some.injEq] at ht
        subst ht
        obtain ⟨a', dd, e1, q2, q3⟩ := exc_there rs e (.ref h1)
        cases e1
        cases rx
        have hd : ∀ d, dd = some d → ∃ gs, H d = some (.xd gs) := fun d z => by
          rcases q3 with ⟨_, q⟩ | ⟨d', gs, q, q5, _⟩
          · rw [q] at z; cases z
          · rw [q] at z; cases z; exact ⟨gs, q5⟩
        obtain ⟨oe, od, J, _⟩ := exc_inst I q2 hd
        have F := CO.ex c k b (by
          cases k with
          | ty _ => exact hk
          | own _ => exact hk)
        have ds := CO.ds
        unfold dscB at ds
        simp only [Bool.and_eq_true, decide_eq_true_eq] at ds
        exact ⟨_, PySem.W.kitx_exc (ox := oe) (od := od) F.cls F.ga F.gg F.sub F.cl ds.1 ds.2 F.mro, J, fun z => nomatch z⟩
      | ins c fs => simp [tyC, e] at ht
theorem gIsi_at {tab : Tab} {cs : List CK} {d : D} {S : Sto} {K : PySem.W.Frag} {H : Hp} {m : List Addr} {σ : L2.St} {Q : VK} (p : PV K W H m σ (gIsi tab cs d S) Q) : ∃ t b, tyC d S = some t ∧ isAny tab t cs = some b ∧ PV K W H m σ (.ok (.bl b) S) Q := by
  unfold gIsi at p
  cases e : tyC d S with
  | none => simp only [e] at p; exact p.elim
  | some t =>
    simp only [e] at p
    cases e2 : isAny tab t cs with
    | none => simp only [e2] at p; exact p.elim
    | some b => simp only [e2] at p; exact ⟨t, b, rfl, e2, p⟩
/-- isinstance(e, C) -/
theorem e_isi {a c : Expr} {f : FE} {tab : Tab} {k : CK} {cv : V} (CO : ClsOk X.K tab) (hg : Gl X "isinstance") (hm : X.mg "isinstance" = none) (ha : PE X a (tE X.K W f)) (hc : PE X c (tC cv)) (hcv : ∀ u, RelV cv u → u = ckV X.K k) (h2 : starEach (a :: [c]) X.env = (false, eval a X.env) :: starEach [c] X.env := by rfl)
    (h3 : starEach (c :: []) X.env = (false, eval c X.env) :: starEach [] X.env := by rfl) (h4 : (backTo pos (starEach [c] X.env)).any (·.1) = false := by rfl) :
    PE X (.Call (.Name "isinstance" p) [a, c] [] pos) (tE X.K W (vUn (gIsi tab [k]) f)) := by
  have hr : CallR X (.builtin "isinstance") (fun vs H Q => ∃ x m S d σ, vs = [x, cv] ∧ RS X.K H m S ∧ RV X.K H m d x ∧ PV X.K W H m σ (gIsi tab [k] d S) Q) := by
    intro pins s σ H xs us Q I r ⟨x, m, S, d, σ', e0, rs, rd, p⟩
    subst e0
    obtain ⟨u1, u2, rfl, r1, r2⟩ := Vals.two r
    obtain ⟨t, b, ht, hb, q⟩ := gIsi_at p
    have hb1 : isOf tab t k = some b := by
      unfold isAny at hb
      cases e : isOf tab t k with
      | none => simp [e] at hb
      | some b0 => cases b0 <;> simp [e, isAny] at hb <;> rw [hb]
    obtain ⟨P, Z, pz, hx⟩ := kitD CO I rs rd r1 ht hb1
    rw [hcv u2 r2]
    exact PySem.W.kia_one Z I.kIn pz (isOf_ok CO.tb hb1) hx fun tk => ⟨.bl b, H, I.tok tk, rfl, q H m _ Le.refl rs (.bl b)⟩
  refine ⟨fun pins s σ H Q I h => (pe_callB hr hg hm (by decide +kernel) (pa_cons ha (pa_cons hc pa_nil h3) h2) (he := h2) (hpl := h4)).run pins s σ H Q I ?_⟩
  exact (tE.then (k := fun _ d S1 => gIsi tab [k] d S1) h).mono fun v H1 ⟨m, E, S, d, re, rs, rv, q⟩ => ⟨v, m, S, d, σ, rfl, rs, rv, q⟩
/-- isinstance(e, (C1, C2, ..)) -/
theorem e_isiT {a : Expr} {cs : List Expr} {f : FE} {tab : Tab} {ks : List CK} {cvs : List V} {kk tp} {tcs : TA} (CO : ClsOk X.K tab) (hne : ks ≠ []) (hg : Gl X "isinstance") (hm : X.mg "isinstance" = none) (ha : PE X a (tE X.K W f)) (hc : PA X cs tcs) (htc : ∀ σ H Q, Q cvs H → tcs σ H Q) (hz : cvs.length ≤ 100) (hcv : ∀ us, Vals cvs us → us = ks.map (ckV X.K))
    (h2 : starEach (a :: [.Tuple cs kk tp]) X.env = (false, eval a X.env) :: starEach [.Tuple cs kk tp] X.env := by rfl)
    (h3 : starEach (.Tuple cs kk tp :: []) X.env = (false, eval (.Tuple cs kk tp) X.env) :: starEach [] X.env := by rfl) (h4 : (backTo pos (starEach [.Tuple cs kk tp] X.env)).any (·.1) = false := by rfl) :
    PE X (.Call (.Name "isinstance" p) [a, .Tuple cs kk tp] [] pos) (tE X.K W (vUn (gIsi tab ks) f)) := by
  have hr : CallR X (.builtin "isinstance") (fun vs H Q => ∃ x q m S d σ, vs = [x, .ref q] ∧ H q = some (.tup cvs) ∧ RS X.K H m S ∧ RV X.K H m d x ∧ PV X.K W H m σ (gIsi tab ks d S) Q) := by
    intro pins s σ H xs us Q I r ⟨x, tq, m, S, d, σ', e0, hq, rs, rd, p⟩
    subst e0
    obtain ⟨u1, u2, rfl, r1, r2⟩ := Vals.two r
    cases (show u2 = Value.ref tq from r2)
    obtain ⟨t, b, ht, hb, q⟩ := gIsi_at p
    obtain ⟨k0, b0, hb0⟩ : ∃ k0 b0, isOf tab t k0 = some b0 := by
      cases ks with
      | nil => exact absurd rfl hne
      | cons k0 r =>
        unfold isAny at hb
        cases e : isOf tab t k0 with
        | none => simp [e] at hb
        | some b0 => exact ⟨k0, b0, e⟩
    obtain ⟨P, Z, pz, hx⟩ := kitD CO I rs rd r1 ht hb0
    obtain ⟨_, its, rv, o, h1, h2, n, h3⟩ := (show ObjOk X.prog X.w H s.heap tq (.tup cvs) from I.hok tq _ hq)
    have e3 := hcv _ rv
    subst e3
    obtain ⟨oc, od, dt, sl⟩ := o
    simp only at h2 h3
    subst h2 h3
    exact PySem.W.kia_tup Z I.kIn pz h1 (isAny_ok CO.tb hb) hx fun tk => ⟨.bl b, H, I.tok tk, rfl, q H m _ Le.refl rs (.bl b)⟩
  refine ⟨fun pins s σ H Q I h => (pe_callB hr hg hm (by decide +kernel) (pa_cons ha (pa_cons (pe_tup hc) pa_nil h3) h2) (he := h2) (hpl := h4)).run pins s σ H Q I ?_⟩
  refine (tE.then (k := fun _ d S1 => gIsi tab ks d S1) h).mono fun v H1 ⟨m, E, S, d, re, rs, rv, q⟩ => ?_
  refine htc σ H1 _ ⟨Nat.le_trans hz (by decide), fun tq hq => ?_⟩
  have l1 : Le X.K H1 m (upd H1 tq (.tup cvs)) m := Le.new hq
  exact ⟨v, tq, m, S, d, σ, rfl, upd_same, rs.side hq, rv.up l1, PV.re l1 q⟩
/-- e.f, e an exception that a name holds -/
def gFld (cl : List Str) (f : Str) (d : D) (S : Sto) : Res := match d with
  | .ref n => (match S[n]? with
    | some (.exc c fs) => if c ∈ cl then (match fs.lookup f with
      | some y => .ok y S
      | none => .bad) else .bad
    | _ => .bad)
  | _ => .bad
theorem RFs.look {K H m} {fs : List (Str × D)} {gs : List (Str × V)} {f : Str} {d : D} (h : RFs K H m fs gs) (e : fs.lookup f = some d) : ∃ v, gs.lookup f = some v ∧ RV K H m d v := by
  induction h with
  | nil => cases e
  | cons r t ih =>
    rename_i p q l1 l2
    obtain ⟨k, d'⟩ := p
    obtain ⟨k', v'⟩ := q
    obtain ⟨r1, r2⟩ := r
    dsimp only at r1 r2
    subst r1
    rw [List.lookup_cons] at e ⊢
    by_cases z : f == k
    · simp only [z] at e ⊢
      cases e
      exact ⟨v', rfl, r2⟩
    · simp only [z] at e ⊢
      exact ih e
theorem e_xf {e : Expr} {f : Str} {fe : FE} {cl : List Str} (hF : ∀ c ∈ cl, ExcF X.K c ∧ PySem.W.findIn X.K (.ref (He.ga X.K c)) f = some none) (he : PE X e (tE X.K W fe)) (hb : attributeBase e f X.env (eval e X.env) = eval e X.env := by rfl) :
    PE X (.Attribute e f pos) (tE X.K W (vUn (gFld cl f) fe)) := by
  refine ⟨fun pins s σ H Q I h => ?_⟩
  refine attr_of hb (thn (he.run pins s σ H _ I (tE.then (k := fun _ d S1 => gFld cl f d S1) h)) fun u s1 ⟨x, H1, I1, rx, m, E, S, d, re, rs, rd, q⟩ => ?_)
  cases rd with
  | ref h1 =>
    rename_i n a
    simp only [gFld] at q
    cases ec : S[n]? with
    | none => simp only [ec] at q; exact q.elim
    | some c =>
      cases c with
      | exc c fs =>
        simp only [ec] at q
        by_cases hc : c ∈ cl
        · rw [if_pos hc] at q
          cases el : fs.lookup f with
          | none => simp only [el] at q; exact q.elim
          | some y =>
            simp only [el] at q
            obtain ⟨F, hno⟩ := hF c hc
            obtain ⟨a', dd, e1, q2, q3⟩ := exc_there rs ec (.ref h1)
            cases e1
            cases rx
            rcases q3 with ⟨z, _⟩ | ⟨dx, gs, rfl, hx, rf⟩
            · subst z; cases el
            · obtain ⟨v, hv, rv⟩ := rf.look el
              obtain ⟨oe, od, J, J2⟩ := exc_inst I1 q2 (fun d z => by cases z; exact ⟨gs, hx⟩)
              have ox : ObjOk X.prog X.w H1 s1.heap dx (.xd gs) := I1.hok dx _ hx
              obtain ⟨mA, hns, hr⟩ := ox
              obtain ⟨od', ho, hl⟩ := lookIn_ns hns
              obtain ⟨u, hu, ru⟩ := RelO.some_of (v := v) (o := mA f) (by rw [← hv]; exact hr f)
              have eo : od = some od' := by
                rcases J2 with ⟨z, _⟩ | ⟨d2, o2, z1, z2, z3⟩
                · cases z
                · cases z1
                  rw [z3] at ho
                  cases ho
                  exact z2
              subst eo
              exact PySem.HandSPX.exc_get I1.kIn J F.ga F.gg F.sub (PySem.W.findObj_own F.hd hno rfl (by rw [hl, hu])) (handed_of ru) ⟨v, H1, I1.tok _, ru, q H1 m v Le.refl rs rv⟩
        · rw [if_neg hc] at q; exact q.elim
      | _ => simp only [ec] at q; exact q.elim
  | _ => exact q.elim
end
end Z
namespace Z
open PySem PySem.Spec PyProof.Rows L2

/-! ## an exception that is caught becomes a value -/
theorem Inv_track {X : Cx} {pins : List (Addr × Obj)} {σ : L2.St} {H : Hp} {s : Shared} {a : Addr} {o : HO} (I : Inv X pins σ H s) (na : H a = none) (n0 : X.s_0.heap.get? a = none) (nL : a ≠ X.env.locals) (nC : ∀ x c, X.env.cells.lookup x = some c → c ≠ a)
    (nP : ∀ p ∈ X.pn ++ pins, p.1 ≠ a) (new : ObjOk X.prog X.w (upd H a o) s.heap a o) : Inv X pins σ (upd H a o) s := by
  have ne : ∀ {b u}, H b = some u → upd H a o b = some u := fun {b u} e => by rw [upd_ne (ne_of_none e na)]; exact e
  refine ⟨I.ok, I.os, I.bare, ⟨I.base.keep, I.base.slot, fun b ob e n hx => ?_, I.base.there, fun b xs e => ne (I.base.tups b xs e), fun b ob u e => ne (I.base.frzs b ob u e), fun b ps e => ?_⟩, I.loc, I.cell, ?_, fun x c e => ?_, fun p hp => ?_, fun b u e => ?_, I.len⟩
  · have nb : b ≠ a := fun z => by subst z; rw [n0] at e; cases e
    rw [upd_ne nb]
    exact I.base.free b ob e n hx
  · obtain ⟨more, q⟩ := I.base.tbls b ps e
    exact ⟨more, ne q⟩
  · rw [upd_ne (Ne.symm nL)]; exact I.free
  · rw [upd_ne (nC x c e)]; exact I.freeC x c e
  · obtain ⟨e, n, ne', nf, d⟩ := I.pin p hp
    exact ⟨e, by rw [upd_ne (nP p hp)]; exact n, ne', nf, d⟩
  · by_cases hb : b = a
    · subst hb
      rw [upd_same] at e
      cases e
      exact new
    · rw [upd_ne hb] at e
      exact (I.hok b u e).stay (fun c v _ q => q) (fun c q => ne q) fun c xs q => ne q
theorem fly_keeps {B h h' : Heap} {l : List Env} {a : Addr} {Z : Obj → Prop} (fl : PySem.HandSPX.FlyingZ B l a Z h) (k : ∀ b o, h.get? b = some o → h'.get? b = some o) : PySem.HandSPX.FlyingZ B l a Z h' := by
  obtain ⟨f1, f2, f3, oe, vs, T, oT, ts, e1, e2, e3, e4, e5, e6, e7, e8, e9⟩ := fl
  exact ⟨fun b o e => k b o (f1 b o e), f2, Heap.FunFrames.of_keeps (fun b o e _ => ⟨o, k b o e, rfl⟩) f3, oe, vs, T, oT, ts, k _ _ e1, e2, e3, e4, e5, e6, k _ _ e7, e8, e9⟩
/-- what an except clause asks: t is the class expression -/
def ExT (X : Cx) (t : Expr) (cls : Value) (b : Bool) : Prop := ∀ (a : Addr) (pn : List (Addr × Obj)) (s : Shared) (σ : L2.St) (H : Hp) (Q : Bool → Shared → Prop) (E : Value → Shared → Prop), Inv (X.suite a pn) [] σ H s → PySem.W.Looks (model X.prog X.w) s.heap (typeOf (.ref a)) cls →
  (∀ h' tk, (∀ q o, s.heap.get? q = some o → h'.get? q = some o) → Q b { s with heap := h', toks := tk }) →
  wpAny (model X.prog X.w) (X.A.mark (some (.ref a))) (eval t X.env) (fun c s1 => wpAny (model X.prog X.w) (X.A.mark (some (.ref a))) (excMatches (.ref a) c) Q E s1) E s
theorem name_at {X : Cx} {x : Str} {np : Pos} {c : Value} {a : Addr} {pn : List (Addr × Obj)} {s : Shared} {σ : L2.St} {H : Hp} {Q : Value → Shared → Prop} {E : Value → Shared → Prop} (n : Names X x c) (I : Inv (X.suite a pn) [] σ H s) (q : Q c s) : wpAny (model X.prog X.w) (X.A.mark (some (.ref a))) (eval (.Name x np) X.env) Q E s := by
  obtain ⟨hg, hdbg, hm | ⟨hm, hv, hnn⟩⟩ := n
  · exact ld_glob (X := X.suite a pn) I hg hm q hdbg
  · exact ld_blt (X := X.suite a pn) I hg hm hv q hnn hdbg
theorem ext1 {X : Cx} {x : Str} {np : Pos} {c cls : Value} {b : Bool} (n : Names X x c) (he : PySem.W.exmOne X.K cls c = some b) : ExT X (.Name x np) cls b := fun a pn s σ H Q E I LT q =>
  name_at n I ((PySem.W.exm_one (M := model X.prog X.w) I.kIn LT he).here (q s.heap s.toks fun _ _ z => z))
theorem ext2 {X : Cx} {x1 x2 : Str} {p1 p2 tp : Pos} {kk : Nat} {c1 c2 cls : Value} {b : Bool} (n1 : Names X x1 c1) (n2 : Names X x2 c2) (he : PySem.W.exmAny X.K cls [c1, c2] = some b) : ExT X (.Tuple [.Name x1 p1, .Name x2 p2] kk tp) cls b := fun a pn s σ H Q E I LT q => by
  refine wpAny_Tuple (wpAny_items_cons (name_at n1 I (wpAny_items_cons (name_at n2 I (wpAny_items_nil ⟨by size_fits, ?_⟩)))))
  have kp : ∀ q o, s.heap.get? q = some o → (s.heap.push { cls := .type "tuple", data := .seq [c1, c2].toArray }).get? q = some o := fun _ _ z => Heap.get?_push_of_some _ z
  exact (PySem.W.exm_tup2 (M := model X.prog X.w) (I.kIn.keeps kp) (LT.keeps kp) (Heap.get?_push_size s.heap rfl) he).here (q _ s.toks kp)

/-- which classes a clause takes: told for the exceptions that may come -/
def sTry (b : FS) (caught : Str → Option Bool) (i : Nat) (suite : FS) : FS := fun E S => match b E S with
  | .exc c fs E1 S1 => (match caught c with
    | some true => (match suite (E1.set i (some (.ref S1.length))) (S1 ++ [.exc c fs]) with
      | .nx E2 S2 => .nx (E2.set i none) S2
      | .brk E2 S2 => .brk (E2.set i none) S2
      | .cnt E2 S2 => .cnt (E2.set i none) S2
      | .ret d S2 => .ret d S2
      | _ => .bad)
    | some false => .exc c fs E1 S1
    | none => .bad)
  | r => r
section
variable {X : Cx} {W : WX} {n : Str} {i : Nat} {body suite : List Stmt} {b₀ : Stmt} {t : Expr} {pos pos' : Pos} {fb fs : FS} {caught : Str → Option Bool}
theorem s_try (hs : X.stack = X.env :: X.outer) (hf : X.env.frame = some X.env.locals) (hex : X.ex = []) (hN : X.N.Nodup) (hi : X.N[i]? = some n) (hln : X.env.kindOf n = some .local) (tk : Takes X W)
    (ht : ∀ c b, caught c = some b → ExT X t (.ref (He.ga X.K c)) b)
    (hb : ∀ (W' : WX) (pn : List (Addr × Obj)) (xe : Value → Shared → Prop), Takes (X.tr pn xe) W' → PassesOwn (model X.prog X.w) X.A X.env xe → PSs (X.tr pn xe) body (tS X.K W' fb))
    (hsu : ∀ (a : Addr) (pn : List (Addr × Obj)), PSs (X.suite a pn) (b₀ :: suite) (tS X.K wNo fs)) :
    PS X (.Try body [.ExceptHandler (some t) (some n) (b₀ :: suite) pos'] [] [] pos) (tS X.K W (sTry fb caught i fs)) := by
  refine ⟨fun pins s σ H D I h => ?_⟩
  have ok := I.ok
  have hfr : X.A.frames = some (X.env :: X.outer) := by rw [ok.frames, hs]
  have hloc : Loc X.env.scope n := .inl hln
  -- what the clause wishes of an exception
  let Wc : WX := fun cls d σ' H' => ∃ m' E' S' c gs, RE X.K H' m' E' σ' ∧ RS X.K H' m' S' ∧ RX X.K H' m' c gs cls d ∧ PQ X.K W H' m' (match caught c with
    | some true => (match fs (E'.set i (some (.ref S'.length))) (S' ++ [.exc c gs]) with
      | .nx E2 S2 => .nx (E2.set i none) S2
      | .brk E2 S2 => .brk (E2.set i none) S2
      | .cnt E2 S2 => .cnt (E2.set i none) S2
      | .ret d S2 => .ret d S2
      | _ => .bad)
    | some false => .exc c gs E' S'
    | none => .bad) D
  have hbody : tS X.K Wc fb D σ H := by
    obtain ⟨m, E, S, re, rs, q⟩ := h
    refine ⟨m, E, S, re, rs, ?_⟩
    unfold sTry at q
    cases e : fb E S with
    | exc c gs E1 S1 =>
      rw [e] at q
      exact fun H1 m1 σ1 cls dd l re1 rs1 rx => ⟨m1, E1, S1, c, gs, re1, rs1, rx, PQ.re l q⟩
    | nx E1 S1 => rw [e] at q; exact q
    | brk E1 S1 => rw [e] at q; exact q
    | cnt E1 S1 => rw [e] at q; exact q
    | ret d S1 => rw [e] at q; exact q
    | bad => rw [e] at q; exact q
  refine wpAny_Try_except (wpAny_mono ((hb Wc (X.pn ++ pins) (fun e s₁ => wpAny (model X.prog X.w) X.A (noteFrame e X.env) (fun _ s₂ => wpAny (model X.prog X.w) X.A (setFlight e none) (fun _ s₃ =>
    wpAny (model X.prog X.w) X.A (handleBy e X.env [.ExceptHandler (some t) (some n) (b₀ :: suite) pos']) (SP X pins D) X.xe s₃) X.xe s₂) X.xe s₁) (fun u s' xx => ?_) PassesOwn.looking).run [] s σ H D (I.toTry _) hbody) (fun f s1 hsp => ?_) (fun e s1 he => he))
  · obtain ⟨a, B, sI, pins', σ', H', cls, d, rfl, J', nb, up, sky, na, os, ag, m', E', S', c, gs, re', rs', rx', q⟩ := xx
    have J : Inv X pins σ' H' sI := J'.ofTry ok
    have sky' : Sky B (X.env :: X.outer) a (Zc cls d) X.env.locals s'.heap := by rw [← hs]; exact sky
    show wpAny (model X.prog X.w) X.A (noteFrame (.ref a) X.env) _ _ _
    refine Sky.land Zc.steady hfr hf sky' fun h3 fl3 up3 => ?_
    have J3 : Inv X pins σ' H' { s' with heap := h3 } := J.landed nb fl3.1 (up.trans up3) os ag
    obtain ⟨oe3, vs3, he3, hz3, hd3⟩ := fl3.there
    have nfr : a ∉ frs (X.env :: X.outer) := fun hm => by
      obtain ⟨_, o', e', hnf⟩ := fl3.2.2.1.mem hm
      rw [he3] at e'; cases e'
      exact hnf _ hd3
    have nL : a ≠ X.env.locals := fun z => nfr (List.mem_filterMap.mpr ⟨X.env, List.mem_cons_self, by rw [hf, z]⟩)
    have nF : a ∉ X.fs := fun hm => by
      obtain ⟨e, he, q⟩ := List.mem_filterMap.mp hm
      exact nfr (List.mem_filterMap.mpr ⟨e, List.mem_cons_of_mem _ he, q⟩)
    have nSI : sI.heap.get? a = none := by
      cases z : sI.heap.get? a with
      | none => rfl
      | some o =>
        have := nb a o z (by rw [hs]; exact nfr)
        rw [fl3.2.1] at this
        cases this
    have n0 : X.s_0.heap.get? a = none := by
      cases z : X.s_0.heap.get? a with
      | none => rfl
      | some o =>
        obtain ⟨o', q⟩ := J.base.there a o z (by rw [hex]; simp)
        rw [nSI] at q
        cases q
    have nC : ∀ x c, X.env.cells.lookup x = some c → c ≠ a := fun x c e z => by
      obtain ⟨v, o, ho, _⟩ := J.cell x c e
      rw [z, nSI] at ho
      cases ho
    have nP : ∀ p ∈ X.pn ++ pins, p.1 ≠ a := fun p hp z => by
      have := (J.pin p hp).1
      rw [z, nSI] at this
      cases this
    -- the context of the clause: nothing is pinned of the exception itself
    have toS : ∀ {h4 : Heap} {tk : Nat} {H4 : Hp} {σ4 : L2.St}, Inv X pins σ4 H4 { s' with heap := h4, toks := tk } → Inv (X.suite a (X.pn ++ pins)) [] σ4 H4 { s' with heap := h4, toks := tk } := fun {h4 tk H4 σ4} K4 =>
      ⟨K4.ok.suite _ _, K4.os, K4.bare, K4.base, K4.loc, K4.cell, K4.free, K4.freeC, fun p hp => K4.pin p (by rw [List.append_nil] at hp; exact hp), K4.hok, K4.len⟩
    refine wpAny_handleBy_cons (codeAny_handlers_test ?_) (by intro q; cases q)
    have LT : PySem.W.Looks (model X.prog X.w) h3 (typeOf (.ref a)) cls := fun A Q E s k q => wpAny_typeOf_ref (k _ _ he3) (by rw [hz3.1]; exact q)
    obtain ⟨ecls, _⟩ := rx'
    cases hc : caught c with
    | none => simp only [hc] at q; exact q.elim
    | some bc =>
    have hx := ht c bc hc
    rw [← ecls] at hx
    refine hx a (X.pn ++ pins) { s' with heap := h3 } σ' H' _ _ (toS (tk := s'.toks) J3) LT fun h3' tk3 kp => ?_
    have fl3' := fly_keeps fl3 kp
    have up3' : sI.heap.UpToSlots h3' := (up.trans up3).trans (Heap.UpToSlots.of_keeps kp)
    have J3' : Inv X pins σ' H' { s' with heap := h3', toks := tk3 } := J.landed nb fl3'.1 up3' os ag
    cases bc with
    | true =>
      simp only [hc] at q
      refine codeAny_handlers_suite_as ?_
      refine HandSPX.lands_againZ fl3' fun h4 fl4 up4 => ?_
      have J4 : Inv X pins σ' H' { s' with heap := h4, toks := tk3 } := J.landed nb fl4.1 (up3'.trans up4) os ag
      obtain ⟨oe4, vs4, he4, hz4, hd4⟩ := fl4.there
      have T4 : Inv X pins σ' (upd H' a (exv cls d a)) { s' with heap := h4, toks := tk3 } := Inv_track J4 na n0 nL nC nP ⟨⟨oe4, vs4, he4, hz4, hd4⟩, ⟨oe4, he4⟩, fun _ _ ⟨o, v, q, r⟩ k => ⟨o, v, k o q, r⟩⟩
      have S4 := toS (tk := tk3) T4
      have l1 : Le X.K H' m' (upd H' a (exv cls d a)) (m' ++ [a]) := (Le.new na).trans Le.more
      have rx4 : RX X.K (upd H' a (exv cls d a)) (m' ++ [a]) c gs cls d := RX.up l1 (fun d' gs' z => by rw [upd_ne (ne_of_none z na)]; exact z) ⟨ecls, by assumption⟩
      have rs4 : RS X.K (upd H' a (exv cls d a)) (m' ++ [a]) (S' ++ [.exc c gs]) := (rs'.side na).push (rs'.newp na) ⟨d, by rw [upd_same, ecls], by rw [← ecls]; exact rx4⟩
      have ref4 : RV X.K (upd H' a (exv cls d a)) (m' ++ [a]) (.ref S'.length) (.ref a) := .ref (by rw [← rs'.len]; simp)
      have q4 := PQ.re l1 q
      refine store_ok (X := X.suite a (X.pn ++ pins)) (v := .ref a) S4 hN hi hloc rfl (fun s5 S5 => ?_) (.inr hln)
      let D' : Ends := { nx := fun σ' H' => D.nx (σ'.set i none) H', rt := D.rt, bk := fun σ' H' => D.bk (σ'.set i none) H', ct := fun σ' H' => D.ct (σ'.set i none) H' }
      have run := (hsu a (X.pn ++ pins)).run [] s5 (σ'.set i (some (.ref a))) (upd H' a (exv cls d a)) D' S5 ⟨m' ++ [a], _, _, (re'.up l1).set i ref4, rs4, by
        cases ee : fs (E'.set i (some (.ref S'.length))) (S' ++ [.exc c gs]) with
        | nx E2 S2 => rw [ee] at q4; exact fun H6 m6 σ6 l6 re6 rs6 => q4 H6 m6 _ l6 (re6.unset i) rs6
        | brk E2 S2 => rw [ee] at q4; exact fun H6 m6 σ6 l6 re6 rs6 => q4 H6 m6 _ l6 (re6.unset i) rs6
        | cnt E2 S2 => rw [ee] at q4; exact fun H6 m6 σ6 l6 re6 rs6 => q4 H6 m6 _ l6 (re6.unset i) rs6
        | ret d2 S2 => rw [ee] at q4; exact q4
        | exc c2 g2 E2 S2 => rw [ee] at q4; exact q4.elim
        | bad => rw [ee] at q4; exact q4.elim⟩
      refine wpAny_mono run (fun f s6 hsp => ?_) (fun _ _ z => False.elim z)
      have back : ∀ {σ6 : L2.St} {H6 : Hp}, Inv (X.suite a (X.pn ++ pins)) [] σ6 H6 s6 → Inv X pins σ6 H6 s6 := fun {σ6 H6} S6 =>
        ⟨ok, S6.os, S6.bare, S6.base, S6.loc, S6.cell, S6.free, S6.freeC, fun p hp => S6.pin p (by rw [List.append_nil]; exact hp), S6.hok, S6.len⟩
      have end_ : ∀ {σ6 : L2.St} {H6 : Hp} {Q : Shared → Prop}, Inv (X.suite a (X.pn ++ pins)) [] σ6 H6 s6 → (∀ s7, Inv X pins (σ6.set i none) H6 s7 → Q s7) →
          wpAny (model X.prog X.w) X.A (do bindName X.env n .none; unbindBehindTheSuite X.env n pos') (fun _ s7 => Q s7) X.xe s6 := fun {σ6 H6 Q} S6 hq => gone_ok (back S6) hN hi hln hq
      cases f with
      | next => obtain ⟨σ6, H6, S6, q6⟩ := hsp; exact end_ S6 fun s7 J7 => ⟨_, _, J7, q6⟩
      | brk => obtain ⟨σ6, H6, S6, q6⟩ := hsp; exact end_ S6 fun s7 J7 => ⟨_, _, J7, q6⟩
      | cont => obtain ⟨σ6, H6, S6, q6⟩ := hsp; exact end_ S6 fun s7 J7 => ⟨_, _, J7, q6⟩
      | ret u => obtain ⟨v6, σ6, H6, S6, r6, q6⟩ := hsp; exact end_ S6 fun s7 J7 => ⟨_, _, _, J7, r6, q6⟩
    | false =>
      simp only [hc] at q
      show wpAny _ X.A (handleBy (.ref a) X.env []) _ _ _
      have out : ∀ {h' : Heap}, HandSPX.HeldZ B (X.env :: X.outer) a (Zc cls d) X.env.locals h' → h3'.UpToSlots h' → X.xe (.ref a) { s' with heap := h', toks := tk3 } := fun {h'} hh4 up4 =>
        tk _ _ ⟨a, B, sI, pins, σ', H', cls, d, rfl, J, nb, up3'.trans up4, .inr (.inr (by rw [hs]; exact hh4)), na, os, ag, q H' m' σ' cls d Le.refl re' rs' ⟨ecls, by assumption⟩⟩
      refine wpAny_handleBy_nil ?_
      obtain ⟨_, _, _, oe5, vs5, T5, oT5, ts5, g1, g2, g3, g4, _⟩ := id fl3'
      unfold PySem.passOn
      refine wpAny_bind (wpAny_field g1 g3 g4 ?_)
      have nT : ¬ ((Value.ref T5 == Value.none) = true) := by simp
      rw [if_neg nT]
      have fin : wpAny (model X.prog X.w) X.A (setFlight (.ref a) X.env.frame) (fun _ s4 => wpAny (model X.prog X.w) X.A (throw (.ref a) : Sem Flow) (SP X pins D) X.xe s4) X.xe { s' with heap := h3', toks := tk3 } := by
        rw [hf]
        exact HandSPX.setFlight_upZ fl3' fun h4 hh4 up4 => wpAny_throw (out hh4 up4)
      first
        | exact wpAny_bind (wpAny_pure (wpAny_bind fin))
        | exact wpAny_bind fin
  · cases f with
    | next => obtain ⟨σ', H', J', q⟩ := hsp; exact wpAny_execs_nil ⟨σ', H', J'.ofTry ok, q⟩
    | brk => obtain ⟨σ', H', J', q⟩ := hsp; exact ⟨σ', H', J'.ofTry ok, q⟩
    | cont => obtain ⟨σ', H', J', q⟩ := hsp; exact ⟨σ', H', J'.ofTry ok, q⟩
    | ret u => obtain ⟨v, σ', H', J', r, q⟩ := hsp; exact ⟨v, σ', H', J'.ofTry ok, r, q⟩
end
end Z
namespace Z
open PySem PySem.Spec PyProof.Rows L2

/-! ## raise X(e), X's own __init__ one store -/
theorem RC.same {K : PySem.W.Frag} {H H' : Hp} {m : List Addr} {c : Cell} {a : Addr} (s : Same H H') (l : Le K H m H' m) (h : RC K H m c a) : RC K H' m c a := by
  cases c with
  | lst ds => obtain ⟨vs, h3, h4⟩ := h; exact ⟨vs, s _ _ h3, h4.up l⟩
  | exc c fs => obtain ⟨dd, h3, h4⟩ := h; exact ⟨dd, s _ _ h3, h4.up l fun _ _ z => s _ _ z⟩
  | ins c fs => obtain ⟨dx, gs, h3, h4⟩ := h; exact ⟨dx, gs, s _ _ h3, h4.up l⟩
theorem Le.same {K : PySem.W.Frag} {H H' : Hp} {m : List Addr} (s : Same H H') : Le K H m H' m := by
  refine ⟨fun _ _ h => h, fun a xs h => ?_, fun a xs h => ?_, fun a h => s _ _ h⟩
  · rcases h with (h | ⟨ob, h⟩) | h
    · exact .inl (.inl (s _ _ h))
    · exact .inl (.inr ⟨ob, s _ _ h⟩)
    · exact .inr h
  · rcases h with ⟨ob, h⟩ | h
    · exact .inl ⟨ob, s _ _ h⟩
    · exact .inr h
theorem RS.same {K : PySem.W.Frag} {H H' : Hp} {m : List Addr} {S : Sto} (s : Same H H') (h : RS K H m S) : RS K H' m S :=
  ⟨h.len, h.inj, fun i c e => let ⟨a, h1, h2⟩ := h.at_ i c e; ⟨a, h1, RC.same s (Le.same s) h2⟩⟩
/-- the class object of an exception of the text under ValueError -/
def oexB (K : PySem.W.Frag) (C : Addr) : Bool := match K.lookup C with
  | some ⟨.type t, _, .cls cd, sl⟩ => decide (t = "type") && (cd.hasDict && (!cd.hasDel && ((match cd.mro with
    | .ref c :: bm => decide (c = C) && PySem.HandSPX.refsVE bm
    | _ => false) && (match sl.toList with
    | [_, _, _, _, some (.builtin n), _] => decide (n = "ValueError.__new__")
    | _ => false))))
  | _ => false
theorem oexB_ok {K : PySem.W.Frag} {C : Addr} (h : oexB K C = true) : ∃ nm q N bs bm sn sub ab col dd k0 k1 k2 k3 k5, K.lookup C = some (excClassObj nm q C N bs bm true sn sub ab col dd k0 k1 k2 k3 k5 "ValueError.__new__") ∧ PySem.HandSPX.refsVE bm = true := by
  unfold oexB at h
  cases e : K.lookup C with
  | none => rw [e] at h; cases h
  | some o =>
    obtain ⟨oc, od, dt, sl⟩ := o
    rw [e] at h
    cases oc with
    | type t =>
      cases dt with
      | cls cd =>
        obtain ⟨nm, bs, mro, ns, qn, hd, sn, sub, ab, col, del⟩ := cd
        dsimp only at h
        rw [Bool.and_eq_true, Bool.and_eq_true, Bool.and_eq_true, Bool.and_eq_true] at h
        obtain ⟨h1, h2, h3, h4, h5⟩ := h
        have e1 : t = "type" := of_decide_eq_true h1
        subst e1
        cases hd with
        | false => cases h2
        | true =>
          cases del with
          | true => cases h3
          | false =>
            cases mro with
            | nil => cases h4
            | cons r bm =>
              cases r with
              | ref c =>
                dsimp only at h4
                rw [Bool.and_eq_true] at h4
                have e2 : c = C := of_decide_eq_true h4.1
                subst e2
                obtain ⟨l⟩ := sl
                dsimp only at h5
                split at h5
                · rename_i x0 k0 k1 k2 k3 n k5
                  have e3 : n = "ValueError.__new__" := of_decide_eq_true h5
                  subst e3
                  exact ⟨nm, qn, ns, bs, bm, sn, sub, ab, col, od, k0, k1, k2, k3, k5, rfl, h4.2⟩
                · cases h5
              | _ => cases h4
      | _ => cases h
    | _ => cases h
/-- all that is asked of an exception class that is raised with one value -/
def rsB (K : PySem.W.Frag) (c : Str) : Bool := excB K c && (oexB K (He.ga K c) && (decide (PySem.W.findIn K (.ref (He.ga K c)) "__setattr__" = some (some (.builtin "object.__setattr__"))) &&
  (decide (PySem.W.findIn K (.ref (He.ga K c)) "__init__" = some (some (.ref (He.ma K (He.ga K c) "__init__")))) && decide (PySem.W.typeIn K (.ref (He.ma K (He.ga K c) "__init__")) = some (.type "function")))))
structure RsF (K : PySem.W.Frag) (c : Str) : Prop where
  ex : ExcF K c
  ox : OexC K (He.ga K c)
  ini : PySem.W.findIn K (.ref (He.ga K c)) "__init__" = some (some (.ref (He.ma K (He.ga K c) "__init__")))
  ity : PySem.W.typeIn K (.ref (He.ma K (He.ga K c) "__init__")) = some (.type "function")
theorem rsB_ok {K : PySem.W.Frag} {c : Str} (h : rsB K c = true) : RsF K c := by
  unfold rsB at h
  simp only [Bool.and_eq_true, decide_eq_true_eq] at h
  obtain ⟨h1, h2, h3, h4, h5⟩ := h
  have F := excB_ok h1
  exact ⟨F, ⟨oexB_ok h2, h3, F.sub, F.ty, F.kp⟩, h4, h5⟩
/-- __init__(self, f): self.f = f -/
def spI (C : Addr) (f : Str) : Sp := fun vs H Q _ => ∃ a v, vs = [V.ref a, v] ∧ H a = some (exo a C none) ∧ ∀ dx, H dx = none → dx ≠ a → Q .non (upd (upd H dx (exd dx [(f, v)])) a (exo a C (some dx)))
theorem init_ok {P : Program} {w : World} {K : PySem.W.Frag} {mg : Str → Option Value} {base : Heap} {qual f : Str} {params : Arguments} {scope : Scope} {fA C : Addr} {fd : FuncData} {p1 p2 p3 p4 : Pos}
    (F : FunD K "__init__" qual params [.Assign [.Attribute (.Name "self" p1) f p2] (.Name f p3) p4] scope [] [] fA fd) (Sc : FnScope [("self" : Str), f] [("self" : Str), f] scope) (T : OexC K C) (hno : PySem.W.findIn K (.ref C) f = some none)
    (hs : ∀ env : Env, swapsWith (.Name f p3) (some (.Attribute (.Name "self" p1) f p2)) p4.line env = pure false := by intro _; rfl) (hd1 : (f == ("__debug__" : Str)) = false := by decide) (hd2 : (f == ("__classdict__" : Str)) = false := by decide) :
    FnOk P w K mg base CX0 1 fA fd [("self" : Str), f] (spI C f) := by
  refine F.ok Sc (fun vs H Q E ⟨a, v, e, _⟩ => by rw [e]; rfl) fun cdv A outer s H vs Q E hr ⟨a, v, e, h1, h2⟩ => ?_
  subst e
  have vis : ∀ x, x ∈ [("self" : Str), f] → Vis scope x := fun x hx => by
    rcases Sc.par x hx with q | q
    · exact .inl q
    · exact .inr (.inl q)
  refine ⟨_, pss_one (ps_ost (pe_var (i := 0) (x := "self") rfl (vis _ List.mem_cons_self)) (pe_var (i := 1) (x := f) rfl (vis _ (List.mem_cons_of_mem _ List.mem_cons_self)) hd1 hd2) (hs _)), ?_⟩
  exact ⟨v, rfl, .ref a, rfl, a, C, rfl, T, hno, .inl ⟨h1, fun dx n1 n2 => h2 dx n1 n2⟩⟩
def sRaise (c f : Str) (fe : FE) : FS := fun E S => (fe E S).s E fun d S1 => .exc c [(f, d)] E S1
section
variable {X : Cx} {W : WX} {pos pos2 p : Pos}
theorem s_raise {c f : Str} {e : Expr} {fe : FE} {fd : FuncData} (hc : X.calm = true) (tk : Takes X W) (R : RsF X.K c) (hr : Room 2 X.A) (F1 : FnOk X.prog X.w X.K X.mg X.base CX0 1 (He.ma X.K (He.ga X.K c) "__init__") fd [("self" : Str), f] (spI (He.ga X.K c) f)) (hb : Binds X.K fd [("self" : Str), f] [])
    (hg : Gl X c) (hm : X.mg c = some (.ref (He.ga X.K c))) (he : PE X e (tE X.K W fe)) (hdb : (c == ("__debug__" : Str)) = false := by decide) (hst : starEach (e :: []) X.env = (false, eval e X.env) :: starEach [] X.env := by rfl) (hpl : (backTo pos (starEach [] X.env)).any (·.1) = false := by rfl) :
    PS X (.Raise (some (.Call (.Name c p) [e] [] pos)) none pos2) (tS X.K W (sRaise c f fe)) := by
  refine ⟨fun pins s σ H D I h => (ps_raise hc tk (pmk_oex R.ox R.ini R.ity F1 hr hb .nil pass0 hg hm (pa_cons he pa_nil hst) hdb hst hpl)).run pins s σ H D I ?_⟩
  refine (tE.stm (k := fun E d S1 => .exc c [(f, d)] E S1) h).mono fun v H1 ⟨m, E, S, d, re, rs, rv, q⟩ => ⟨(by decide : 1 ≤ 1000), fun a na => ?_⟩
  refine ⟨a, v, rfl, upd_same, fun dx nd nda => ⟨rfl, dx, [(f, v)], upd_same, ?_, ?_, ?_⟩⟩
  · rw [upd_ne nda, upd_same]
  · rw [upd_ne nda] at nd; exact nd
  · have nd1 : H1 dx = none := by rw [upd_ne nda] at nd; exact nd
    have sm : Same H1 (upd (del (upd (upd (upd H1 a (exo a (He.ga X.K c) none)) dx (exd dx [(f, v)])) a (exo a (He.ga X.K c) (some dx))) a) dx (.xd [(f, v)])) := fun b o e => by
      have n1 := ne_of_none e na
      have n2 := ne_of_none e nd1
      rw [upd_ne n2, del_ne n1, upd_ne n1, upd_ne n2, upd_ne n1]
      exact e
    have l := Le.same (K := X.K) (m := m) sm
    exact q _ m σ _ _ l (re.up l) (rs.same sm) ⟨rfl, .inr ⟨dx, _, rfl, upd_same, .cons ⟨rfl, rv.up l⟩ .nil⟩⟩

/-! ## x = [..] -/
theorem s_setLc {i : Nat} {y : Str} {py : Pos} {elt tg iter : Expr} {ifs : List Expr} {scope : Scope} {own : List (Str × Nat)} {it : FI} {pt : Pat} {g : TG} {t : FB} {tt : TT} {e : FE} {spos : Pos} (hc : X.calm = true) (hN : X.N.Nodup) (hy : X.N[i]? = some y) (hyl : X.env.scope.names.lookup y = some .local)
    (hsw : swapsWith (.ListComp elt [⟨tg, iter, ifs, 0⟩] scope pos) (some (.Name y py)) spos.line X.env = pure true) (hi : PI X tg iter (tI X.K W it)) (ok : BlkOk X.N X.env.scope scope own)
    (hg : ∀ (s : Shared) (H : Hp) (C : Addr) (cl : List (Str × Addr)) (fp : List Addr), PG (X.blk s H scope (compEnvC scope cl C X.env) fp) tg g) (hgp : GP X.K pt g) (hown : ∀ i ∈ pt.slots, i ∈ own.map (·.2))
    (ht : ∀ (s : Shared) (H : Hp) (C : Addr) (cl : List (Str × Addr)) (fp : List Addr), PTs (X.blk s H scope (compEnvC scope cl C X.env) fp) ifs tt) (htt : ∀ σ H Q, tT X.K wNo t σ H Q → tt σ H Q)
    (he : ∀ (s : Shared) (H : Hp) (C : Addr) (cl : List (Str × Addr)) (fp : List Addr), PE (X.blk s H scope (compEnvC scope cl C X.env) fp) elt (tE X.K wNo e)) (hs : ∀ x, foldedSetIterable iter X.env x = pure x := by intro _; rfl) :
    PS X (.Assign [.Name y py] (.ListComp elt [⟨tg, iter, ifs, 0⟩] scope pos) spos) (tS X.K W (sSet i (vLc it pt (own.map (·.2)) t e))) := by
  refine ⟨fun pins s σ H D I h => (ps_setLc hc hN hy hyl hsw hi ok hg ht he hs).run pins s σ H D I ?_⟩
  have h2 := (tE.stm (k := fun E d S1 => .nx (E.set i (some d)) S1) h)
  have h3 : tE X.K W (vLc it pt (own.map (·.2)) t e) σ H (fun x H1 => gName i x σ H1 D.nx) := h2.mono fun v H1 ⟨m, E, S, d, re, rs, rv, q⟩ => q H1 m _ Le.refl (re.set i rv) rs
  exact e_lc.lc_read h3 hgp hown htt
end
end Z
namespace Z
open PySem PySem.Spec PyProof.Rows L2

/-! ## short words for derivations -/
/-- a, b = e1, e2 -/
def sPar (i j : Nat) (l : FL) : FS := fun E S => match l E S with
  | .ok [a, b] S1 => .nx ((E.set i (some a)).set j (some b)) S1
  | .ok _ _ => .bad
  | .exc c fs S1 => .exc c fs E S1
  | .bad => .bad
section
variable {X : Cx} {W : WX} {pos : Pos}
theorem s_par {i j : Nat} {x y : Str} {a b : Expr} {l : FL} {px py pt : Pos} {kt k2 pt2} (hc : X.calm = true) (hN : X.N.Nodup) (hi : X.N[i]? = some x) (hj : X.N[j]? = some y) (hij : i ≠ j)
    (hx : X.env.scope.names.lookup x = some .local) (hy : X.env.scope.names.lookup y = some .local) (ha : PA X [a, b] (tL X.K W l))
    (hw : swappedStores [.Tuple [.Name x px, .Name y py] kt pt] (.Tuple [a, b] k2 pt2) X.env = pure (some [x, y]))
    (hs : swapsWithSole [.Tuple [.Name x px, .Name y py] kt pt] (.Tuple [a, b] k2 pt2) pos.line X.env = pure false := by rfl) : PS X (.Assign [.Tuple [.Name x px, .Name y py] kt pt] (.Tuple [a, b] k2 pt2) pos) (tS X.K W (sPar i j l)) := by
  refine ⟨fun pins s σ H D I h => (ps_par hc hN hi hj hij hx hy ha hw hs).run pins s σ H D I ?_⟩
  obtain ⟨m, E, S, re, rs, q⟩ := h
  refine ⟨m, E, S, re, rs, ?_⟩
  unfold sPar at q
  cases e : l E S with
  | exc c fs S1 => rw [e] at q; exact fun H1 m1 cls dd l rs1 rx => q H1 m1 σ cls dd l (re.up l) rs1 rx
  | bad => rw [e] at q; exact q
  | ok ds S1 =>
    rw [e] at q
    intro H1 m1 vs l1 rs1 rv
    cases rv with
    | nil => exact q.elim
    | cons r1 t =>
      cases t with
      | nil => exact q.elim
      | cons r2 t =>
        cases t with
        | nil => exact ⟨_, _, rfl, q H1 m1 _ l1 (((re.up l1).set i r1).set j r2) rs1⟩
        | cons _ _ => exact q.elim
theorem tk_no : Takes X wNo := fun _ _ ⟨_, _, _, _, _, _, _, _, _, _, _, _, _, _, _, _, w⟩ => w.elim
theorem e_v (i : Nat) {x : Str} (hN : X.N[i]? = some x := by rfl) (hv : Vis X.env.scope x := by first | exact Or.inl rfl | exact Or.inr (Or.inl rfl) | exact Or.inr (Or.inr rfl)) (hd : (x == ("__debug__" : Str)) = false := by decide) (hcd : (x == ("__classdict__" : Str)) = false := by decide) : PE X (.Name x pos) (tE X.K W (vV i)) := e_var hN hv hd hcd
theorem blk_by {X : Cx} {scope : Scope} {own : List (Str × Nat)} (N : List Str) (sc : Scope) (h : blkC N sc scope own = true) (hN : X.N = N := by rfl) (hs : X.env.scope = sc := by rfl) : BlkOk X.N X.env.scope scope own := by
  rw [hN, hs]
  exact blkOk_by h
theorem tt_no : ∀ {K : PySem.W.Frag} (σ : L2.St) (H : Hp) (Q : Bool → Hp → Prop), tT K wNo bTrue σ H Q → tYes σ H Q := fun σ H Q ⟨m, E, S, re, rs, p⟩ => p H m Le.refl rs
theorem tt_id {K : PySem.W.Frag} {t : FB} : ∀ (σ : L2.St) (H : Hp) (Q : Bool → Hp → Prop), tT K wNo t σ H Q → tT K wNo t σ H Q := fun _ _ _ h => h
theorem ck_ty {K : PySem.W.Frag} {n : String} : ∀ u, RelV (.ty n) u → u = ckV K (.ty n) := fun _ h => h
theorem ck_own {K : PySem.W.Frag} {c : Str} : ∀ u, RelV (.ref (He.ga K c)) u → u = ckV K (.own c) := fun _ h => h
theorem cks_nil {K : PySem.W.Frag} : ∀ us, Vals [] us → us = ([] : List CK).map (ckV K) := fun us h => by cases h; rfl
theorem cks_cons {K : PySem.W.Frag} {v : V} {vs : List V} {k : CK} {ks : List CK} (h1 : ∀ u, RelV v u → u = ckV K k) (h2 : ∀ us, Vals vs us → us = ks.map (ckV K)) : ∀ us, Vals (v :: vs) us → us = (k :: ks).map (ckV K) := fun us h => by
  cases h with
  | cons r t => rw [h1 _ r, h2 _ t]; rfl
end
section
variable {K : PySem.W.Frag} {x qual : Str} {params : Arguments} {body : List Stmt} {scope : Scope} {f : Addr} {fd : FuncData} {ps ks : List Str} {n : Nat} {idx : List Nat}
theorem bd0 (F : FunD K x qual params body scope [] [] f fd)
    (h : ∀ (kV doc pm : Value) (an : Option Addr) (cdv ct : Value) (us : List Value), us.length = n + ks.length → bindArgs (PySem.W.fnOf x qual params body scope .none kV doc pm an cdv ct) ⟨us.take n, ks.zip (us.drop n)⟩ = pure (ps.zip (pick idx us))) : Bd K fd ps n ks idx [] := by
  obtain ⟨oc, od, dV, kV, doc, pm, an, cdv, ct, osl, rfl, lk, hcd, hD, hK⟩ := F.ex
  rcases hD with ⟨_, rfl⟩ | ⟨e, _⟩
  · refine ⟨[], [], fun _ _ => .nil, .nil, fun s us _ hl => ?_⟩
    rw [List.append_nil]
    exact .of_eq (h kV doc pm an cdv ct us hl)
  · exact absurd rfl e
theorem bd1 {dvs : List V} {dfl : List D} (F : FunD K x qual params body scope dvs [] f fd) (hne : dvs ≠ []) (hd : ∀ H m, RVs K H m dfl dvs)
    (h : ∀ (T : Addr) (kV doc pm : Value) (an : Option Addr) (cdv ct : Value) (us its : List Value), us.length = n + ks.length → its.length = dvs.length →
      ∃ k, bindArgs (PySem.W.fnOf x qual params body scope (.ref T) kV doc pm an cdv ct) ⟨us.take n, ks.zip (us.drop n)⟩ = seqItems? (.ref T) >>= k ∧ k (some its.toArray) = pure (ps.zip (pick idx (us ++ its)))) : Bd K fd ps n ks idx dfl := by
  obtain ⟨oc, od, dV, kV, doc, pm, an, cdv, ct, osl, rfl, lk, hcd, hD, hK⟩ := F.ex
  rcases hD with ⟨e, _⟩ | ⟨_, T, o, its, m, rfl, lT, oT, rT⟩
  · exact absurd e hne
  · refine ⟨dvs, its, hd, rT, fun s us X hl => BindsTo.of_looks fun M => ?_⟩
    obtain ⟨k, e1, e2⟩ := h T kV doc pm an cdv ct us its hl rT.length.symm
    rw [e1]
    exact looks_items X lT oT (.of_pure e2)
end
/-- the classes of exceptions that may come to a clause, each with the clause's answer -/
def caughtL (l : List (Str × Bool)) (c : Str) : Option Bool := l.lookup c
def caughtB (K : PySem.W.Frag) (l : List (Str × Bool)) (cs : List CK) : Bool := l.all fun p => decide (PySem.W.exmAny K (.ref (He.ga K p.1)) (cs.map (ckV K)) = some p.2)
theorem lk_mem {c : Str} {b : Bool} : ∀ {l : List (Str × Bool)}, l.lookup c = some b → (c, b) ∈ l
  | [], h => by cases h
  | (k', b') :: r, h => by
    rw [List.lookup_cons] at h
    by_cases e : c == k'
    · simp only [e] at h
      cases h
      have e' : c = k' := by simpa using e
      rw [e']
      exact List.mem_cons_self
    · simp only [e] at h
      exact List.mem_cons_of_mem _ (lk_mem h)
theorem caught2 {X : Cx} {l : List (Str × Bool)} {k1 k2 : CK} {x1 x2 : Str} {p1 p2 tp : Pos} {kk : Nat} (h : caughtB X.K l [k1, k2] = true) (n1 : Names X x1 (ckV X.K k1)) (n2 : Names X x2 (ckV X.K k2)) :
    ∀ c b, caughtL l c = some b → ExT X (.Tuple [.Name x1 p1, .Name x2 p2] kk tp) (.ref (He.ga X.K c)) b := fun c b e => by
  have hm := lk_mem e
  unfold caughtB at h
  rw [List.all_eq_true] at h
  exact ext2 n1 n2 (of_decide_eq_true (h _ hm))
theorem exm_any1 {K : PySem.W.Frag} {cls c : Value} {b : Bool} (h : PySem.W.exmAny K cls [c] = some b) : PySem.W.exmOne K cls c = some b := by
  obtain ⟨b1, d1, h1, h2, h3⟩ := PySem.W.exmAny_cons h
  have : d1 = false := by
    have h2' : some false = some d1 := h2
    cases h2'
    rfl
  subst this
  rw [h1, h3, Bool.or_false]
theorem caught1 {X : Cx} {l : List (Str × Bool)} {k1 : CK} {x1 : Str} {p1 : Pos} (h : caughtB X.K l [k1] = true) (n1 : Names X x1 (ckV X.K k1)) :
    ∀ c b, caughtL l c = some b → ExT X (.Name x1 p1) (.ref (He.ga X.K c)) b := fun c b e => by
  have hm := lk_mem e
  unfold caughtB at h
  rw [List.all_eq_true] at h
  exact ext1 n1 (exm_any1 (of_decide_eq_true (h _ hm)))
theorem nm_own {X : Cx} {x : Str} (hg : Gl X x) (hm : X.mg x = some (.ref (He.ga X.K x))) (hd : (x == ("__debug__" : Str)) = false := by decide) : Names X x (ckV X.K (.own x)) := ⟨hg, hd, .inl hm⟩
end Z
namespace P
open PySem PySem.Spec PyProof.Rows L2 Z
def top (i : Nat) : Stmt := PySem.Challenge.pw_lateshares_k01_fractions_of_anything.main.body.getD i (.Pass ⟨0, 0, 0, 0⟩)
def ct__law_refused_0 : List (Str × Bool) := [("NoPart", true)]
def itab : Tab := [((.own "NoPart", .own "LateError"), true), ((.own "NoPart", .own "Missing"), false), ((.own "NoPart", .own "NoPart"), true), ((.own "NoPart", .own "NoText"), false), ((.own "NoPart", .own "NoWork"), false), ((.own "NoPart", .own "TooMany"), false), ((.own "NoPart", .ty "ValueError"), true), ((.own "NoPart", .ty "bool"), false), ((.own "NoPart", .ty "int"), false), ((.own "NoPart", .ty "str"), false), ((.own "NoPart", .ty "tuple"), false), ((.ty "NoneType", .own "LateError"), false), ((.ty "NoneType", .own "Missing"), false), ((.ty "NoneType", .own "NoPart"), false), ((.ty "NoneType", .own "NoText"), false), ((.ty "NoneType", .own "NoWork"), false), ((.ty "NoneType", .own "TooMany"), false), ((.ty "bool", .own "LateError"), false), ((.ty "bool", .own "Missing"), false), ((.ty "bool", .own "NoPart"), false), ((.ty "bool", .own "NoText"), false), ((.ty "bool", .own "NoWork"), false), ((.ty "bool", .own "TooMany"), false), ((.ty "int", .own "LateError"), false), ((.ty "int", .own "Missing"), false), ((.ty "int", .own "NoPart"), false), ((.ty "int", .own "NoText"), false), ((.ty "int", .own "NoWork"), false), ((.ty "int", .own "TooMany"), false), ((.ty "str", .own "LateError"), false), ((.ty "str", .own "Missing"), false), ((.ty "str", .own "NoPart"), false), ((.ty "str", .own "NoText"), false), ((.ty "str", .own "NoWork"), false), ((.ty "str", .own "TooMany"), false), ((.ty "tuple", .own "LateError"), false), ((.ty "tuple", .own "Missing"), false), ((.ty "tuple", .own "NoPart"), false), ((.ty "tuple", .own "NoText"), false), ((.ty "tuple", .own "NoWork"), false), ((.ty "tuple", .own "TooMany"), false), ((.ty "list", .own "LateError"), false), ((.ty "list", .own "Missing"), false), ((.ty "list", .own "NoPart"), false), ((.ty "list", .own "NoText"), false), ((.ty "list", .own "NoWork"), false), ((.ty "list", .own "TooMany"), false), ((.ty "dict", .own "LateError"), false), ((.ty "dict", .own "Missing"), false), ((.ty "dict", .own "NoPart"), false), ((.ty "dict", .own "NoText"), false), ((.ty "dict", .own "NoWork"), false), ((.ty "dict", .own "TooMany"), false)]
abbrev st_is_whole : Stmt := top 9
theorem sc_is_whole : FnScope ["thing"] ["thing"] (defScope st_is_whole) := ⟨rfl, rfl, rfl, by decide +kernel, rfl, by decide +kernel, by decide +kernel⟩
noncomputable def b_is_whole : FS := sSeq (sRet (vAnd (vUn (gIsi itab [.ty "int"]) (vV 0)) (vNot (vUn (gIsi itab [.ty "bool"]) (vV 0))))) (sNil)
noncomputable def fn_is_whole : List D → Sto → Res := runS 1 b_is_whole
abbrev st_is_fraction : Stmt := top 10
theorem sc_is_fraction : FnScope ["thing", "n", "d"] ["thing"] (defScope st_is_fraction) := ⟨rfl, rfl, rfl, by decide +kernel, rfl, by decide +kernel, by decide +kernel⟩
noncomputable def b_is_fraction : FS := sSeq (sIf (bOr (bNot (bOf (vUn (gIsi itab [.ty "tuple"]) (vV 0)))) (bCmp gNe (vCall gLen (lCons (vV 0) (lNil))) (vC (.int 2)))) (sSeq (sRet (vC (.bl false))) (sNil)) (sNil)) (sSeq (sPut (.tp [.nm 1, .nm 2]) (vV 0)) (sSeq (sIf (bOr (bNot (bOf (vCall (vFn 1 [0] [] fn_is_whole) (lCons (vV 1) (lNil))))) (bNot (bOf (vCall (vFn 1 [0] [] fn_is_whole) (lCons (vV 2) (lNil)))))) (sSeq (sRet (vC (.bl false))) (sNil)) (sNil)) (sSeq (sRet (vAnd (vBin gGe (vV 2) (vC (.int 1))) (vBin gEq (vCall gGcd (lCons (vV 1) (lCons (vV 2) (lNil)))) (vC (.int 1))))) (sNil))))
noncomputable def fn_is_fraction : List D → Sto → Res := runS 3 b_is_fraction
abbrev st_part : Stmt := top 11
theorem sc_part : FnScope ["n", "d", "common"] ["n", "d"] (defScope st_part) := ⟨rfl, rfl, rfl, by decide +kernel, rfl, by decide +kernel, by decide +kernel⟩
def dfl_part : List D := [.int 1]
noncomputable def b_part : FS := sSeq (sIf (bCmp gEq (vV 1) (vC (.int 0))) (sSeq (sRaise "NoPart" "n" (vV 0)) (sNil)) (sNil)) (sSeq (sSet 2 (vCall gGcd (lCons (vV 0) (lCons (vV 1) (lNil))))) (sSeq (sIf (bCmp gLt (vV 1) (vC (.int 0))) (sSeq (sSet 2 (vUn gNeg (vV 2))) (sNil)) (sNil)) (sSeq (sRet (vTup (lCons (vBin gDiv (vV 0) (vV 2)) (lCons (vBin gDiv (vV 1) (vV 2)) (lNil))))) (sNil))))
noncomputable def fn_part : List D → Sto → Res := runS 3 b_part
abbrev st__law_pot : Stmt := top 13
theorem sc__law_pot : FnScope ["_law_script", "_law_k", "_law_cell", "_law_great"] ["_law_script", "_law_k"] (defScope st__law_pot) := ⟨rfl, rfl, rfl, by decide +kernel, rfl, by decide +kernel, by decide +kernel⟩
noncomputable def b__law_pot : FS := sSeq (sSet 2 (vBin gAdd (vBin gMul (vC (.int 5)) (vV 1)) (vCall gLen (lCons (vV 0) (lNil))))) (sSeq (sIf (bCmp gLt (vV 1) (vCall gLen (lCons (vV 0) (lNil)))) (sSeq (sSet 2 (vBin gIx (vV 0) (vV 1))) (sNil)) (sNil)) (sSeq (sSet 3 (vBin gMul (vBin gMod (vCall gAbs (lCons (vV 2) (lNil))) (vCall gInt (lCons (vBin gAdd (vC (.str "1")) (vBin gMul (vC (.str "0")) (vC (.int 300)))) (lNil)))) (vCall gInt (lCons (vBin gGe (vCall gAbs (lCons (vV 2) (lNil))) (vBin gPow (vC (.int 10)) (vC (.int 18)))) (lNil))))) (sSeq (sRet (vLst (lCons (vV 3) (lCons (vBin gMod (vBin gMul (vBin gAdd (vBin gAdd (vBin gMod (vV 2) (vC (.int 2305843009213693951))) (vBin gMul (vBin gMul (vC (.int 6959)) (vV 1)) (vV 1))) (vC (.int 13))) (vC (.int 48271))) (vC (.int 2305843009213693951))) (lNil))))) (sNil))))
noncomputable def fn__law_pot : List D → Sto → Res := runS 4 b__law_pot
abbrev st__law_take : Stmt := top 14
theorem sc__law_take : FnScope ["_law_pot_here", "_law_upto", "_law_digit"] ["_law_pot_here", "_law_upto"] (defScope st__law_take) := ⟨rfl, rfl, rfl, by decide +kernel, rfl, by decide +kernel, by decide +kernel⟩
noncomputable def b__law_take : FS := sSeq (sIf (bCmp gGt (vBin gIx (vV 0) (vC (.int 0))) (vC (.int 0))) (sSeq (sSet 2 (vBin gMod (vBin gIx (vV 0) (vC (.int 0))) (vV 1))) (sSeq (sSub (vBin gDiv (vBin gIx (vV 0) (vC (.int 0))) (vV 1)) (vV 0) (vC (.int 0))) (sSeq (sRet (vV 2)) (sNil)))) (sNil)) (sSeq (sSub (vBin gMod (vBin gAdd (vBin gMul (vBin gIx (vV 0) (vC (.int 1))) (vC (.int 1181783497276652981))) (vC (.int 12345678910987))) (vC (.int 2305843009213693951))) (vV 0) (vC (.int 1))) (sSeq (sRet (vBin gMod (vBin gDiv (vBin gMod (vBin gMul (vBin gDiv (vBin gIx (vV 0) (vC (.int 1))) (vC (.int 65537))) (vBin gAdd (vBin gMod (vBin gIx (vV 0) (vC (.int 1))) (vC (.int 65537))) (vC (.int 3)))) (vC (.int 2305843009213693921))) (vC (.int 97))) (vV 1))) (sNil)))
noncomputable def fn__law_take : List D → Sto → Res := runS 3 b__law_take
abbrev st__law_of : Stmt := top 15
theorem sc__law_of : FnScope ["_law_pot_here", "_law_some"] ["_law_pot_here", "_law_some"] (defScope st__law_of) := ⟨rfl, rfl, rfl, by decide +kernel, rfl, by decide +kernel, by decide +kernel⟩
noncomputable def b__law_of : FS := sSeq (sRet (vBin gIx (vV 1) (vCall (vFn 2 [0, 1] [] fn__law_take) (lCons (vV 0) (lCons (vCall gLen (lCons (vV 1) (lNil))) (lNil)))))) (sNil)
noncomputable def fn__law_of : List D → Sto → Res := runS 2 b__law_of
abbrev st__law_reduced : Stmt := top 16
theorem sc__law_reduced : FnScope ["_law_top", "_law_low", "_law_one", "_law_two", "_law_sign"] ["_law_top", "_law_low"] (defScope st__law_reduced) := ⟨rfl, rfl, rfl, by decide +kernel, rfl, by decide +kernel, by decide +kernel⟩
noncomputable def b__law_reduced : FS := sSeq (sPar 2 3 (lCons (vCall gAbs (lCons (vV 0) (lNil))) (lCons (vCall gAbs (lCons (vV 1) (lNil))) (lNil)))) (sSeq (sWhile (bCmp gGt (vV 3) (vC (.int 0))) (sSeq (sPar 2 3 (lCons (vV 3) (lCons (vBin gMod (vV 2) (vV 3)) (lNil)))) (sNil))) (sSeq (sSet 4 (vIf (bCmp gGt (vV 1) (vC (.int 0))) (vC (.int 1)) (vUn gNeg (vC (.int 1))))) (sSeq (sRet (vTup (lCons (vBin gDiv (vBin gMul (vV 4) (vV 0)) (vV 2)) (lCons (vBin gDiv (vBin gMul (vV 4) (vV 1)) (vV 2)) (lNil))))) (sNil))))
noncomputable def fn__law_reduced : List D → Sto → Res := runS 5 b__law_reduced
abbrev st__law_whole : Stmt := top 17
theorem sc__law_whole : FnScope ["_law_pot_here", "_law_top"] ["_law_pot_here"] (defScope st__law_whole) := ⟨rfl, rfl, rfl, by decide +kernel, rfl, by decide +kernel, by decide +kernel⟩
noncomputable def b__law_whole : FS := sSeq (sSet 1 (vCall (vFn 2 [0, 1] [] fn__law_of) (lCons (vV 0) (lCons (vLst (lCons (vC (.int 0)) (lCons (vC (.int 1)) (lCons (vC (.int 2)) (lCons (vC (.int 6)) (lCons (vC (.int 12)) (lCons (vC (.int 60)) (lCons (vCall (vFn 2 [0, 1] [] fn__law_take) (lCons (vV 0) (lCons (vC (.int 100)) (lNil)))) (lCons (vCall (vFn 2 [0, 1] [] fn__law_take) (lCons (vV 0) (lCons (vBin gPow (vC (.int 10)) (vC (.int 12))) (lNil)))) (lNil)))))))))) (lNil))))) (sSeq (sRet (vIf (bCmp gGt (vCall (vFn 2 [0, 1] [] fn__law_take) (lCons (vV 0) (lCons (vC (.int 3)) (lNil)))) (vC (.int 0))) (vV 1) (vBin gSub (vC (.int 0)) (vV 1)))) (sNil))
noncomputable def fn__law_whole : List D → Sto → Res := runS 2 b__law_whole
abbrev st__law_is_one : Stmt := top 18
theorem sc__law_is_one : FnScope ["_law_item", "_law_half"] ["_law_item"] (defScope st__law_is_one) := ⟨rfl, rfl, rfl, by decide +kernel, rfl, by decide +kernel, by decide +kernel⟩
noncomputable def b__law_is_one : FS := sSeq (sIf (bOr (bNot (bOf (vUn (gIsi itab [.ty "tuple"]) (vV 0)))) (bCmp gNe (vCall gLen (lCons (vV 0) (lNil))) (vC (.int 2)))) (sSeq (sRet (vC (.bl false))) (sNil)) (sNil)) (sSeq (sIf (bOr (bNot (bOf (vCall gAll (lCons (vLc (iSeq (vV 0)) (.nm 1) [1] (bTrue) (vAnd (vUn (gIsi itab [.ty "int"]) (vV 1)) (vNot (vUn (gIsi itab [.ty "bool"]) (vV 1))))) (lNil))))) (bCmp gLt (vBin gIx (vV 0) (vC (.int 1))) (vC (.int 1)))) (sSeq (sRet (vC (.bl false))) (sNil)) (sNil)) (sSeq (sRet (vBin gEq (vV 0) (vCall (vFn 2 [0, 1] [] fn__law_reduced) (lCons (vBin gIx (vV 0) (vC (.int 0))) (lCons (vBin gIx (vV 0) (vC (.int 1))) (lNil)))))) (sNil)))
noncomputable def fn__law_is_one : List D → Sto → Res := runS 2 b__law_is_one
abbrev st__law_things : Stmt := top 19
theorem sc__law_things : FnScope ["_law_pot_here", "_law_one", "_law_top", "_law_low", "_law_more", "_law_found"] ["_law_pot_here", "_law_one"] (defScope st__law_things) := ⟨rfl, rfl, rfl, by decide +kernel, rfl, by decide +kernel, by decide +kernel⟩
noncomputable def b__law_things : FS := sSeq (sPut (.tp [.nm 2, .nm 3]) (vV 1)) (sSeq (sSet 4 (vIf (bCmp gLt (vCall gMax2 (lCons (vCall gAbs (lCons (vV 2) (lNil))) (lCons (vV 3) (lNil)))) (vBin gPow (vC (.int 10)) (vC (.int 10)))) (vBin gAdd (vC (.int 2)) (vCall (vFn 2 [0, 1] [] fn__law_take) (lCons (vV 0) (lCons (vC (.int 30)) (lNil))))) (vC (.int 1)))) (sSeq (sSet 5 (vLst (lCons (vV 1) (lCons (vTup (lCons (vV 2) (lCons (vUn gNeg (vV 3)) (lNil)))) (lCons (vTup (lCons (vUn gNeg (vV 2)) (lCons (vV 3) (lNil)))) (lCons (vTup (lCons (vBin gMul (vV 2) (vV 4)) (lCons (vBin gMul (vV 3) (vV 4)) (lNil)))) (lCons (vTup (lCons (vV 2) (lCons (vC (.int 0)) (lNil)))) (lCons (vTup (lCons (vC (.int 0)) (lCons (vV 3) (lNil)))) (lCons (vTup (lCons (vV 2) (lCons (vV 3) (lCons (vC (.int 1)) (lNil))))) (lCons (vTup (lCons (vV 2) (lNil))) (lNil))))))))))) (sSeq (sSet 5 (vBin gAdd (vV 5) (vLst (lCons (vLst (lCons (vV 2) (lCons (vV 3) (lNil)))) (lNil))))) (sSeq (sSet 5 (vBin gAdd (vV 5) (vLst (lCons (vTup (lCons (vV 2) (lCons (vC (.bl true)) (lNil)))) (lCons (vTup (lCons (vC (.bl true)) (lCons (vV 3) (lNil)))) (lCons (vTup (lCons (vC (.bl false)) (lCons (vC (.int 1)) (lNil)))) (lCons (vTup (lCons (vV 2) (lCons (vCall gStr (lCons (vV 3) (lNil))) (lNil)))) (lCons (vTup (lCons (vV 2) (lCons (vTup (lCons (vV 3) (lNil))) (lNil)))) (lCons (vTup (lCons (vV 1) (lCons (vC (.int 1)) (lNil)))) (lCons (vC .non) (lCons (vC (.bl true)) (lCons (vV 2) (lNil))))))))))))) (sSeq (sRet (vBin gAdd (vV 5) (vLst (lCons (vC (.str "1/2")) (lCons (vTup (lNil)) (lCons (vEmp) (lCons (vLst (lNil)) (lCons (vTup (lCons (vC .non) (lCons (vC (.int 1)) (lNil)))) (lCons (vTup (lCons (vV 2) (lCons (vC .non) (lNil)))) (lCons (vTup (lCons (vC (.int 0)) (lCons (vC (.int 1)) (lNil)))) (lCons (vTup (lCons (vC (.int 0)) (lCons (vC (.int 2)) (lNil)))) (lCons (vTup (lCons (vTup (lCons (vC (.int 1)) (lCons (vC (.int 2)) (lNil)))) (lCons (vTup (lCons (vC (.int 1)) (lCons (vC (.int 2)) (lNil)))) (lNil)))) (lCons (vTup (lCons (vV 3) (lCons (vV 3) (lNil)))) (lCons (vTup (lCons (vC (.int 1)) (lCons (vC (.int 1)) (lNil)))) (lNil))))))))))))))) (sNil))))))
noncomputable def fn__law_things : List D → Sto → Res := runS 6 b__law_things
abbrev st__law_refused : Stmt := top 20
theorem sc__law_refused : FnScope ["_law_top", "_law_caught", "error"] ["_law_top"] (defScope st__law_refused) := ⟨rfl, rfl, rfl, by decide +kernel, rfl, by decide +kernel, by decide +kernel⟩
noncomputable def b__law_refused : FS := sSeq (sSet 1 (vC .non)) (sSeq (sTry (sSeq (sEx (vCall (vFn 2 [0, 1] dfl_part fn_part) (lCons (vV 0) (lCons (vC (.int 0)) (lNil))))) (sNil)) (caughtL ct__law_refused_0) 2 (sSeq (sSet 1 (vV 2)) (sNil))) (sSeq (sIf (bOr (bNot (bOf (vUn (gIsi itab [.own "NoPart"]) (vV 1)))) (bOr (bNot (bOf (vUn (gIsi itab [.own "LateError"]) (vV 1)))) (bNot (bOf (vUn (gIsi itab [.ty "ValueError"]) (vV 1)))))) (sSeq (sRet (vC (.bl false))) (sNil)) (sNil)) (sSeq (sRet (vAnd (vBin gEq (vCall gRepr (lCons (vUn (gFld ["NoPart"] "n") (vV 1)) (lNil))) (vCall gRepr (lCons (vV 0) (lNil)))) (vNot (vUn (gIsi itab [.own "Missing", .own "NoText", .own "NoWork", .own "TooMany"]) (vV 1))))) (sNil))))
noncomputable def fn__law_refused : List D → Sto → Res := runS 3 b__law_refused
abbrev st__law_right : Stmt := top 21
theorem sc__law_right : FnScope ["_law_pot_here", "_law_turn", "_law_top", "_law_low", "_law_due", "_law_told", "_law_item", "_law_kept"] ["_law_pot_here"] (defScope st__law_right) := ⟨rfl, rfl, rfl, by decide +kernel, rfl, by decide +kernel, by decide +kernel⟩
noncomputable def b__law_right : FS := sSeq (sFor (iRng (vC (.int 6))) (.nm 1) (sSeq (sPar 2 3 (lCons (vCall (vFn 1 [0] [] fn__law_whole) (lCons (vV 0) (lNil))) (lCons (vCall (vFn 1 [0] [] fn__law_whole) (lCons (vV 0) (lNil))) (lNil)))) (sSeq (sIf (bOr (bNot (bOf (vCall (vFn 1 [0] [] fn__law_refused) (lCons (vV 2) (lNil))))) (bOr (bCmp gNe (vCall (vFn 1 [0, 1] dfl_part fn_part) (lCons (vV 2) (lNil))) (vTup (lCons (vV 2) (lCons (vC (.int 1)) (lNil))))) (bCmp gNe (vCall (vFn 1 [0, 1] dfl_part fn_part) (lCons (vV 2) (lNil))) (vTup (lCons (vV 2) (lCons (vC (.int 1)) (lNil))))))) (sSeq (sRet (vC (.bl false))) (sNil)) (sNil)) (sSeq (sSet 3 (vIf (bCmp gNe (vV 3) (vC (.int 0))) (vV 3) (vC (.int 1)))) (sSeq (sSet 4 (vCall (vFn 2 [0, 1] [] fn__law_reduced) (lCons (vV 2) (lCons (vV 3) (lNil))))) (sSeq (sSet 5 (vLst (lCons (vCall (vFn 2 [0, 1] dfl_part fn_part) (lCons (vV 2) (lCons (vV 3) (lNil)))) (lCons (vCall (vFn 2 [0, 1] dfl_part fn_part) (lCons (vV 2) (lCons (vV 3) (lNil)))) (lCons (vCall (vFn 2 [0, 1] dfl_part fn_part) (lCons (vUn gNeg (vV 2)) (lCons (vUn gNeg (vV 3)) (lNil)))) (lNil)))))) (sSeq (sIf (bOr (bCmp gNe (vCall gRepr (lCons (vV 5) (lNil))) (vCall gRepr (lCons (vBin gMul (vLst (lCons (vV 4) (lNil))) (vC (.int 3))) (lNil)))) (bNot (bOf (vCall (vFn 1 [0] [] fn_is_fraction) (lCons (vV 4) (lNil)))))) (sSeq (sRet (vC (.bl false))) (sNil)) (sNil)) (sSeq (sFor (iSeq (vCall (vFn 2 [0, 1] [] fn__law_things) (lCons (vV 0) (lCons (vV 4) (lNil))))) (.nm 6) (sSeq (sPar 7 5 (lCons (vCall gRepr (lCons (vV 6) (lNil))) (lCons (vLst (lCons (vCall (vFn 1 [0] [] fn_is_fraction) (lCons (vV 6) (lNil))) (lCons (vCall (vFn 1 [0] [] fn_is_fraction) (lCons (vV 6) (lNil))) (lNil)))) (lNil)))) (sSeq (sIf (bOr (bCmp gNe (vCall gRepr (lCons (vV 5) (lNil))) (vCall gRepr (lCons (vBin gMul (vLst (lCons (vCall (vFn 1 [0] [] fn__law_is_one) (lCons (vV 6) (lNil))) (lNil))) (vC (.int 2))) (lNil)))) (bCmp gNe (vCall gRepr (lCons (vV 6) (lNil))) (vV 7))) (sSeq (sRet (vC (.bl false))) (sNil)) (sNil)) (sNil)))) (sNil))))))))) (sSeq (sRet (vAnd (vBin gEq (vCall (vFn 1 [0, 1] dfl_part fn_part) (lCons (vC (.int 0)) (lNil))) (vTup (lCons (vC (.int 0)) (lCons (vC (.int 1)) (lNil))))) (vBin gEq (vCall (vFn 2 [0, 1] dfl_part fn_part) (lCons (vC (.int 0)) (lCons (vUn gNeg (vC (.int 7))) (lNil)))) (vTup (lCons (vC (.int 0)) (lCons (vC (.int 1)) (lNil))))))) (sNil))
noncomputable def fn__law_right : List D → Sto → Res := runS 8 b__law_right
abbrev st_law : Stmt := top 22
theorem sc_law : FnScope ["_law_script", "_law_k"] ["_law_script"] (defScope st_law) := ⟨rfl, rfl, rfl, by decide +kernel, rfl, by decide +kernel, by decide +kernel⟩
noncomputable def b_law : FS := sSeq (sRet (vCall gAll (lCons (vLc (iRng (vCall gMax2 (lCons (vC (.int 1)) (lCons (vCall gMin2 (lCons (vC (.int 4)) (lCons (vCall gLen (lCons (vV 0) (lNil))) (lNil)))) (lNil))))) (.nm 1) [1] (bTrue) (vCall (vFn 1 [0] [] fn__law_right) (lCons (vCall (vFn 2 [0, 1] [] fn__law_pot) (lCons (vV 0) (lCons (vV 1) (lNil)))) (lNil)))) (lNil)))) (sNil)
noncomputable def fn_law : List D → Sto → Res := runS 2 b_law
abbrev si_NoPart : Stmt := inClass (top 3) 0
theorem sci_NoPart : FnScope ["self", "n"] ["self", "n"] (defScope si_NoPart) := ⟨rfl, rfl, rfl, by decide +kernel, rfl, by decide +kernel, by decide +kernel⟩
structure Fx (K : PySem.W.Frag) (mg : Str → Option Value) : Prop where
  g_LateError : mg "LateError" = some (.ref (He.ga K "LateError"))
  g_Missing : mg "Missing" = some (.ref (He.ga K "Missing"))
  g_NoPart : mg "NoPart" = some (.ref (He.ga K "NoPart"))
  g_NoText : mg "NoText" = some (.ref (He.ga K "NoText"))
  g_NoWork : mg "NoWork" = some (.ref (He.ga K "NoWork"))
  g_TooMany : mg "TooMany" = some (.ref (He.ga K "TooMany"))
  g__law_is_one : mg "_law_is_one" = some (.ref (He.ga K "_law_is_one"))
  g__law_of : mg "_law_of" = some (.ref (He.ga K "_law_of"))
  g__law_pot : mg "_law_pot" = some (.ref (He.ga K "_law_pot"))
  g__law_reduced : mg "_law_reduced" = some (.ref (He.ga K "_law_reduced"))
  g__law_refused : mg "_law_refused" = some (.ref (He.ga K "_law_refused"))
  g__law_right : mg "_law_right" = some (.ref (He.ga K "_law_right"))
  g__law_take : mg "_law_take" = some (.ref (He.ga K "_law_take"))
  g__law_things : mg "_law_things" = some (.ref (He.ga K "_law_things"))
  g__law_whole : mg "_law_whole" = some (.ref (He.ga K "_law_whole"))
  g_is_fraction : mg "is_fraction" = some (.ref (He.ga K "is_fraction"))
  g_is_whole : mg "is_whole" = some (.ref (He.ga K "is_whole"))
  g_part : mg "part" = some (.ref (He.ga K "part"))
  n_ValueError : mg "ValueError" = none
  n_abs : mg "abs" = none
  n_all : mg "all" = none
  n_bool : mg "bool" = none
  n_int : mg "int" = none
  n_isinstance : mg "isinstance" = none
  n_len : mg "len" = none
  n_max : mg "max" = none
  n_min : mg "min" = none
  n_range : mg "range" = none
  n_repr : mg "repr" = none
  n_str : mg "str" = none
  n_tuple : mg "tuple" = none
  m_gcd : mg "gcd" = some (.builtin "math.gcd")
  d_is_whole : ∃ fd, FunD K "is_whole" "is_whole" (defArgs st_is_whole) (defBody st_is_whole) (defScope st_is_whole) [] [] (He.ga K "is_whole") fd
  d_is_fraction : ∃ fd, FunD K "is_fraction" "is_fraction" (defArgs st_is_fraction) (defBody st_is_fraction) (defScope st_is_fraction) [] [] (He.ga K "is_fraction") fd
  d_part : ∃ fd, FunD K "part" "part" (defArgs st_part) (defBody st_part) (defScope st_part) [.int 1] [] (He.ga K "part") fd
  d__law_pot : ∃ fd, FunD K "_law_pot" "_law_pot" (defArgs st__law_pot) (defBody st__law_pot) (defScope st__law_pot) [] [] (He.ga K "_law_pot") fd
  d__law_take : ∃ fd, FunD K "_law_take" "_law_take" (defArgs st__law_take) (defBody st__law_take) (defScope st__law_take) [] [] (He.ga K "_law_take") fd
  d__law_of : ∃ fd, FunD K "_law_of" "_law_of" (defArgs st__law_of) (defBody st__law_of) (defScope st__law_of) [] [] (He.ga K "_law_of") fd
  d__law_reduced : ∃ fd, FunD K "_law_reduced" "_law_reduced" (defArgs st__law_reduced) (defBody st__law_reduced) (defScope st__law_reduced) [] [] (He.ga K "_law_reduced") fd
  d__law_whole : ∃ fd, FunD K "_law_whole" "_law_whole" (defArgs st__law_whole) (defBody st__law_whole) (defScope st__law_whole) [] [] (He.ga K "_law_whole") fd
  d__law_is_one : ∃ fd, FunD K "_law_is_one" "_law_is_one" (defArgs st__law_is_one) (defBody st__law_is_one) (defScope st__law_is_one) [] [] (He.ga K "_law_is_one") fd
  d__law_things : ∃ fd, FunD K "_law_things" "_law_things" (defArgs st__law_things) (defBody st__law_things) (defScope st__law_things) [] [] (He.ga K "_law_things") fd
  d__law_refused : ∃ fd, FunD K "_law_refused" "_law_refused" (defArgs st__law_refused) (defBody st__law_refused) (defScope st__law_refused) [] [] (He.ga K "_law_refused") fd
  d__law_right : ∃ fd, FunD K "_law_right" "_law_right" (defArgs st__law_right) (defBody st__law_right) (defScope st__law_right) [] [] (He.ga K "_law_right") fd
  d_law : ∃ fd, FunD K "law" "law" (defArgs st_law) (defBody st_law) (defScope st_law) [] [] (He.ga K "law") fd
  rs_NoPart : RsF K "NoPart"
  i_NoPart : ∃ fd, FunD K "__init__" "NoPart.__init__" (defArgs si_NoPart) (defBody si_NoPart) (defScope si_NoPart) [] [] (He.ma K (He.ga K "NoPart") "__init__") fd
  fld_n : ∀ c ∈ [("NoPart" : Str)], ExcF K c ∧ PySem.W.findIn K (.ref (He.ga K c)) "n" = some none
  no_NoPart : PySem.W.findIn K (.ref (He.ga K "NoPart")) "n" = some none
  cls : ClsOk K itab
  ct__law_refused_0 : caughtB K ct__law_refused_0 [.own "LateError", .own "Missing"] = true
section
variable {P : Program} {w : World} {K : PySem.W.Frag} {mg : Str → Option Value} {base : Heap}
def Ok_is_whole (P : Program) (w : World) (K : PySem.W.Frag) (mg : Str → Option Value) (base : Heap) : Prop := ∃ fd, FnG P w K mg base 1 (He.ga K "is_whole") fd ["thing"] (spF K 1 fn_is_whole) ∧ PySem.W.keepIn K (.ref (He.ga K "is_whole")) = true ∧ Bd K fd ["thing"] 1 [] [0] []
theorem ok_is_whole (c : Fx K mg)  : Ok_is_whole P w K mg base := by
  obtain ⟨fd, F⟩ := c.d_is_whole
  refine ⟨fd, fn_ok (N := ["thing"]) F sc_is_whole (b := b_is_whole) (fun cdv A outer s H E hg hr => ?_), F.kp, bd0 F (fun _ _ _ _ _ _ us hl => match us, hl with | [_], _ => rfl)⟩
  have tk := takes_of (X := cxOf (L2.CX P w) P w K mg base ["thing"] "is_whole" (defScope st_is_whole) (He.ga K "is_whole") cdv A outer s H E) (E := E) rfl rfl rfl rfl
  have hp := passes_of (X := cxOf (L2.CX P w) P w K mg base ["thing"] "is_whole" (defScope st_is_whole) (He.ga K "is_whole") cdv A outer s H E) rfl
  exact s_cons (s_ret (e_and (e_isi (k := .ty "int") c.cls rfl c.n_isinstance (e_v 0) (pe_bltn (v := .ty "int") rfl c.n_int (by decide +kernel) rfl) ck_ty) (e_one (e_not (e_isi (k := .ty "bool") c.cls rfl c.n_isinstance (e_v 0) (pe_bltn (v := .ty "bool") rfl c.n_bool (by decide +kernel) rfl) ck_ty))))) (s_nil)
def Ok_is_fraction (P : Program) (w : World) (K : PySem.W.Frag) (mg : Str → Option Value) (base : Heap) : Prop := ∃ fd, FnG P w K mg base 2 (He.ga K "is_fraction") fd ["thing"] (spF K 1 fn_is_fraction) ∧ PySem.W.keepIn K (.ref (He.ga K "is_fraction")) = true ∧ Bd K fd ["thing"] 0 ["thing"] [0] [] ∧ Bd K fd ["thing"] 1 [] [0] []
theorem ok_is_fraction (c : Fx K mg) (h_is_whole : Ok_is_whole P w K mg base) : Ok_is_fraction P w K mg base := by
  obtain ⟨fd, F⟩ := c.d_is_fraction
  obtain ⟨fd_is_whole, G_is_whole, k_is_whole, B_is_whole_1_⟩ := h_is_whole
  refine ⟨fd, fn_ok (N := ["thing", "n", "d"]) F sc_is_fraction (b := b_is_fraction) (fun cdv A outer s H E hg hr => ?_), F.kp, bd0 F (fun _ _ _ _ _ _ us hl => match us, hl with | [_], _ => rfl), bd0 F (fun _ _ _ _ _ _ us hl => match us, hl with | [_], _ => rfl)⟩
  have tk := takes_of (X := cxOf (L2.CX P w) P w K mg base ["thing", "n", "d"] "is_fraction" (defScope st_is_fraction) (He.ga K "is_fraction") cdv A outer s H E) (E := E) rfl rfl rfl rfl
  have hp := passes_of (X := cxOf (L2.CX P w) P w K mg base ["thing", "n", "d"] "is_fraction" (defScope st_is_fraction) (He.ga K "is_fraction") cdv A outer s H E) rfl
  exact s_cons (s_if (PW.pt (w_or (t_not (t_of (e_isi (k := .ty "tuple") c.cls rfl c.n_isinstance (e_v 0) (pe_bltn (v := .ty "tuple") rfl c.n_tuple (by decide +kernel) rfl) ck_ty))) (w_or1 (t_cmp (o_ne hr.units) (nomark _) (e_callB (id := "len") c_len rfl c.n_len (by decide +kernel) (a_cons (e_v 0) (a_nil))) (e_int))))) (s_cons (s_ret (e_bl)) (s_nil)) (s_nil)) (s_cons (s_put (e_v 0) (pg_tup rfl (pgs_cons (pg_name (i := 1) sc_is_fraction.nd rfl (Or.inl rfl)) (pgs_cons (pg_name (i := 2) sc_is_fraction.nd rfl (Or.inl rfl)) (pgs_nil)))) (gp_tp rfl (gps_cons (gp_nm 1) (gps_cons (gp_nm 2) (gps_nil))))) (s_cons (s_if (PW.pt (w_or (t_not (t_of (e_call G_is_whole (hr.mono (by decide)) hg tk rfl c.g_is_whole k_is_whole B_is_whole_1_ (fun ds h => match ds, h with | [_], _ => rfl) (a_cons (e_v 1) (a_nil))))) (w_or1 (t_not (t_of (e_call G_is_whole (hr.mono (by decide)) hg tk rfl c.g_is_whole k_is_whole B_is_whole_1_ (fun ds h => match ds, h with | [_], _ => rfl) (a_cons (e_v 2) (a_nil)))))))) (s_cons (s_ret (e_bl)) (s_nil)) (s_nil)) (s_cons (s_ret (e_and (e_cmp o_ge (nomark _) (e_v 2) (e_int)) (e_one (e_cmp (o_eq hr.units) (nomark _) (e_callM c_gcd rfl c.m_gcd (a_cons (e_v 1) (a_cons (e_v 2) (a_nil)))) (e_int))))) (s_nil))))
def Ok_part (P : Program) (w : World) (K : PySem.W.Frag) (mg : Str → Option Value) (base : Heap) : Prop := ∃ fd, FnG P w K mg base 3 (He.ga K "part") fd ["n", "d"] (spF K 2 fn_part) ∧ PySem.W.keepIn K (.ref (He.ga K "part")) = true ∧ Bd K fd ["n", "d"] 2 [] [0, 1] dfl_part ∧ Bd K fd ["n", "d"] 1 [] [0, 1] dfl_part ∧ Bd K fd ["n", "d"] 0 ["n", "d"] [0, 1] dfl_part ∧ Bd K fd ["n", "d"] 0 ["n"] [0, 1] dfl_part
theorem ok_part (c : Fx K mg)  : Ok_part P w K mg base := by
  obtain ⟨fd, F⟩ := c.d_part
  obtain ⟨fdi_NoPart, FI_NoPart⟩ := c.i_NoPart
  have I_NoPart := init_ok (P := P) (w := w) (mg := mg) (base := base) FI_NoPart sci_NoPart c.rs_NoPart.ox c.no_NoPart
  have J_NoPart : Binds K fdi_NoPart ["self", "n"] [] := FI_NoPart.bindsN fun _ _ _ _ _ _ us hl => match us, hl with | [_, _], _ => rfl
  refine ⟨fd, fn_ok (N := ["n", "d", "common"]) F sc_part (b := b_part) (fun cdv A outer s H E hg hr => ?_), F.kp, bd1 F (by decide) (fun _ _ => .cons (.int _) (.nil)) (fun _ _ _ _ _ _ _ us its h1 h2 => match us, h1, its, h2 with | [_, _], _, [_], _ => ⟨_, rfl, rfl⟩), bd1 F (by decide) (fun _ _ => .cons (.int _) (.nil)) (fun _ _ _ _ _ _ _ us its h1 h2 => match us, h1, its, h2 with | [_], _, [_], _ => ⟨_, rfl, rfl⟩), bd1 F (by decide) (fun _ _ => .cons (.int _) (.nil)) (fun _ _ _ _ _ _ _ us its h1 h2 => match us, h1, its, h2 with | [_, _], _, [_], _ => ⟨_, rfl, rfl⟩), bd1 F (by decide) (fun _ _ => .cons (.int _) (.nil)) (fun _ _ _ _ _ _ _ us its h1 h2 => match us, h1, its, h2 with | [_], _, [_], _ => ⟨_, rfl, rfl⟩)⟩
  have tk := takes_of (X := cxOf (L2.CX P w) P w K mg base ["n", "d", "common"] "part" (defScope st_part) (He.ga K "part") cdv A outer s H E) (E := E) rfl rfl rfl rfl
  have hp := passes_of (X := cxOf (L2.CX P w) P w K mg base ["n", "d", "common"] "part" (defScope st_part) (He.ga K "part") cdv A outer s H E) rfl
  exact s_cons (s_if (t_cmp (o_eq hr.units) (nomark _) (e_v 1) (e_int)) (s_cons (s_raise rfl tk c.rs_NoPart (hr.mono (by decide)) I_NoPart J_NoPart rfl c.g_NoPart (e_v 0)) (s_nil)) (s_nil)) (s_cons (s_set (i := 2) sc_part.nd rfl (Or.inl rfl) (e_callM c_gcd rfl c.m_gcd (a_cons (e_v 0) (a_cons (e_v 1) (a_nil))))) (s_cons (s_if (t_cmp o_lt (nomark _) (e_v 1) (e_int)) (s_cons (s_set (i := 2) sc_part.nd rfl (Or.inl rfl) (e_un o_neg (e_v 2))) (s_nil)) (s_nil)) (s_cons (s_ret (e_tup (a_cons (e_bin o_div (e_v 0) (e_v 2)) (a_cons (e_bin o_div (e_v 1) (e_v 2)) (a_nil))))) (s_nil))))
def Ok__law_pot (P : Program) (w : World) (K : PySem.W.Frag) (mg : Str → Option Value) (base : Heap) : Prop := ∃ fd, FnG P w K mg base 1 (He.ga K "_law_pot") fd ["_law_script", "_law_k"] (spF K 2 fn__law_pot) ∧ PySem.W.keepIn K (.ref (He.ga K "_law_pot")) = true ∧ Bd K fd ["_law_script", "_law_k"] 2 [] [0, 1] []
theorem ok__law_pot (c : Fx K mg)  : Ok__law_pot P w K mg base := by
  obtain ⟨fd, F⟩ := c.d__law_pot
  refine ⟨fd, fn_ok (N := ["_law_script", "_law_k", "_law_cell", "_law_great"]) F sc__law_pot (b := b__law_pot) (fun cdv A outer s H E hg hr => ?_), F.kp, bd0 F (fun _ _ _ _ _ _ us hl => match us, hl with | [_, _], _ => rfl)⟩
  have tk := takes_of (X := cxOf (L2.CX P w) P w K mg base ["_law_script", "_law_k", "_law_cell", "_law_great"] "_law_pot" (defScope st__law_pot) (He.ga K "_law_pot") cdv A outer s H E) (E := E) rfl rfl rfl rfl
  have hp := passes_of (X := cxOf (L2.CX P w) P w K mg base ["_law_script", "_law_k", "_law_cell", "_law_great"] "_law_pot" (defScope st__law_pot) (He.ga K "_law_pot") cdv A outer s H E) rfl
  exact s_cons (s_set (i := 2) sc__law_pot.nd rfl (Or.inl rfl) (e_bin o_add (e_bin o_mul (e_int) (e_v 1)) (e_callB (id := "len") c_len rfl c.n_len (by decide +kernel) (a_cons (e_v 0) (a_nil))))) (s_cons (s_if (t_cmp o_lt (nomark _) (e_v 1) (e_callB (id := "len") c_len rfl c.n_len (by decide +kernel) (a_cons (e_v 0) (a_nil)))) (s_cons (s_set (i := 2) sc__law_pot.nd rfl (Or.inl rfl) (e_ix (e_v 0) (e_v 1) (fun _ _ => rfl))) (s_nil)) (s_nil)) (s_cons (s_set (i := 3) sc__law_pot.nd rfl (Or.inl rfl) (e_bin o_mul (e_bin o_mod (e_callB (id := "abs") c_abs rfl c.n_abs (by decide +kernel) (a_cons (e_v 2) (a_nil))) (e_callT (T := "int") c_int rfl c.n_int (by decide +kernel) (a_cons (e_bin o_add (e_str) (e_bin o_mul (e_str) (e_int))) (a_nil)))) (e_callT (T := "int") c_int rfl c.n_int (by decide +kernel) (a_cons (e_cmp o_ge (nomark _) (e_callB (id := "abs") c_abs rfl c.n_abs (by decide +kernel) (a_cons (e_v 2) (a_nil))) (e_bin o_pow (e_int) (e_int))) (a_nil))))) (s_cons (s_ret (e_lst (a_cons (e_v 3) (a_cons (e_bin o_mod (e_bin o_mul (e_bin o_add (e_bin o_add (e_bin o_mod (e_v 2) (e_int)) (e_bin o_mul (e_bin o_mul (e_int) (e_v 1)) (e_v 1))) (e_int)) (e_int)) (e_int)) (a_nil))))) (s_nil))))
def Ok__law_take (P : Program) (w : World) (K : PySem.W.Frag) (mg : Str → Option Value) (base : Heap) : Prop := ∃ fd, FnG P w K mg base 1 (He.ga K "_law_take") fd ["_law_pot_here", "_law_upto"] (spF K 2 fn__law_take) ∧ PySem.W.keepIn K (.ref (He.ga K "_law_take")) = true ∧ Bd K fd ["_law_pot_here", "_law_upto"] 2 [] [0, 1] []
theorem ok__law_take (c : Fx K mg)  : Ok__law_take P w K mg base := by
  obtain ⟨fd, F⟩ := c.d__law_take
  refine ⟨fd, fn_ok (N := ["_law_pot_here", "_law_upto", "_law_digit"]) F sc__law_take (b := b__law_take) (fun cdv A outer s H E hg hr => ?_), F.kp, bd0 F (fun _ _ _ _ _ _ us hl => match us, hl with | [_, _], _ => rfl)⟩
  have tk := takes_of (X := cxOf (L2.CX P w) P w K mg base ["_law_pot_here", "_law_upto", "_law_digit"] "_law_take" (defScope st__law_take) (He.ga K "_law_take") cdv A outer s H E) (E := E) rfl rfl rfl rfl
  have hp := passes_of (X := cxOf (L2.CX P w) P w K mg base ["_law_pot_here", "_law_upto", "_law_digit"] "_law_take" (defScope st__law_take) (He.ga K "_law_take") cdv A outer s H E) rfl
  exact s_cons (s_if (t_cmp o_gt (nomark _) (e_ix (e_v 0) (e_int) (fun _ _ => rfl)) (e_int)) (s_cons (s_set (i := 2) sc__law_take.nd rfl (Or.inl rfl) (e_bin o_mod (e_ix (e_v 0) (e_int) (fun _ _ => rfl)) (e_v 1))) (s_cons (s_sub (e_bin o_div (e_ix (e_v 0) (e_int) (fun _ _ => rfl)) (e_v 1)) (e_v 0) (e_int) (pg_sub (e_v 0) (e_int) set_list)) (s_cons (s_ret (e_v 2)) (s_nil)))) (s_nil)) (s_cons (s_sub (e_bin o_mod (e_bin o_add (e_bin o_mul (e_ix (e_v 0) (e_int) (fun _ _ => rfl)) (e_int)) (e_int)) (e_int)) (e_v 0) (e_int) (pg_sub (e_v 0) (e_int) set_list)) (s_cons (s_ret (e_bin o_mod (e_bin o_div (e_bin o_mod (e_bin o_mul (e_bin o_div (e_ix (e_v 0) (e_int) (fun _ _ => rfl)) (e_int)) (e_bin o_add (e_bin o_mod (e_ix (e_v 0) (e_int) (fun _ _ => rfl)) (e_int)) (e_int))) (e_int)) (e_int)) (e_v 1))) (s_nil)))
def Ok__law_of (P : Program) (w : World) (K : PySem.W.Frag) (mg : Str → Option Value) (base : Heap) : Prop := ∃ fd, FnG P w K mg base 2 (He.ga K "_law_of") fd ["_law_pot_here", "_law_some"] (spF K 2 fn__law_of) ∧ PySem.W.keepIn K (.ref (He.ga K "_law_of")) = true ∧ Bd K fd ["_law_pot_here", "_law_some"] 2 [] [0, 1] []
theorem ok__law_of (c : Fx K mg) (h__law_take : Ok__law_take P w K mg base) : Ok__law_of P w K mg base := by
  obtain ⟨fd, F⟩ := c.d__law_of
  obtain ⟨fd__law_take, G__law_take, k__law_take, B__law_take_2_⟩ := h__law_take
  refine ⟨fd, fn_ok (N := ["_law_pot_here", "_law_some"]) F sc__law_of (b := b__law_of) (fun cdv A outer s H E hg hr => ?_), F.kp, bd0 F (fun _ _ _ _ _ _ us hl => match us, hl with | [_, _], _ => rfl)⟩
  have tk := takes_of (X := cxOf (L2.CX P w) P w K mg base ["_law_pot_here", "_law_some"] "_law_of" (defScope st__law_of) (He.ga K "_law_of") cdv A outer s H E) (E := E) rfl rfl rfl rfl
  have hp := passes_of (X := cxOf (L2.CX P w) P w K mg base ["_law_pot_here", "_law_some"] "_law_of" (defScope st__law_of) (He.ga K "_law_of") cdv A outer s H E) rfl
  exact s_cons (s_ret (e_ix (e_v 1) (e_call G__law_take (hr.mono (by decide)) hg tk rfl c.g__law_take k__law_take B__law_take_2_ (fun ds h => match ds, h with | [_, _], _ => rfl) (a_cons (e_v 0) (a_cons (e_callB (id := "len") c_len rfl c.n_len (by decide +kernel) (a_cons (e_v 1) (a_nil))) (a_nil)))) (fun _ _ => rfl))) (s_nil)
def Ok__law_reduced (P : Program) (w : World) (K : PySem.W.Frag) (mg : Str → Option Value) (base : Heap) : Prop := ∃ fd, FnG P w K mg base 1 (He.ga K "_law_reduced") fd ["_law_top", "_law_low"] (spF K 2 fn__law_reduced) ∧ PySem.W.keepIn K (.ref (He.ga K "_law_reduced")) = true ∧ Bd K fd ["_law_top", "_law_low"] 2 [] [0, 1] []
theorem ok__law_reduced (c : Fx K mg)  : Ok__law_reduced P w K mg base := by
  obtain ⟨fd, F⟩ := c.d__law_reduced
  refine ⟨fd, fn_ok (N := ["_law_top", "_law_low", "_law_one", "_law_two", "_law_sign"]) F sc__law_reduced (b := b__law_reduced) (fun cdv A outer s H E hg hr => ?_), F.kp, bd0 F (fun _ _ _ _ _ _ us hl => match us, hl with | [_, _], _ => rfl)⟩
  have tk := takes_of (X := cxOf (L2.CX P w) P w K mg base ["_law_top", "_law_low", "_law_one", "_law_two", "_law_sign"] "_law_reduced" (defScope st__law_reduced) (He.ga K "_law_reduced") cdv A outer s H E) (E := E) rfl rfl rfl rfl
  have hp := passes_of (X := cxOf (L2.CX P w) P w K mg base ["_law_top", "_law_low", "_law_one", "_law_two", "_law_sign"] "_law_reduced" (defScope st__law_reduced) (He.ga K "_law_reduced") cdv A outer s H E) rfl
  exact s_cons (s_par (i := 2) (j := 3) rfl sc__law_reduced.nd rfl rfl (by decide) rfl rfl (a_cons (e_callB (id := "abs") c_abs rfl c.n_abs (by decide +kernel) (a_cons (e_v 0) (a_nil))) (a_cons (e_callB (id := "abs") c_abs rfl c.n_abs (by decide +kernel) (a_cons (e_v 1) (a_nil))) (a_nil))) rfl) (s_cons (s_while hp (t_cmp o_gt (nomark _) (e_v 3) (e_int)) (s_cons (s_par (i := 2) (j := 3) rfl sc__law_reduced.nd rfl rfl (by decide) rfl rfl (a_cons (e_v 3) (a_cons (e_bin o_mod (e_v 2) (e_v 3)) (a_nil))) rfl) (s_nil))) (s_cons (s_set (i := 4) sc__law_reduced.nd rfl (Or.inl rfl) (e_if (t_cmp o_gt (nomark _) (e_v 1) (e_int)) (e_int) (e_un o_neg (e_int)))) (s_cons (s_ret (e_tup (a_cons (e_bin o_div (e_bin o_mul (e_v 4) (e_v 0)) (e_v 2)) (a_cons (e_bin o_div (e_bin o_mul (e_v 4) (e_v 1)) (e_v 2)) (a_nil))))) (s_nil))))
def Ok__law_whole (P : Program) (w : World) (K : PySem.W.Frag) (mg : Str → Option Value) (base : Heap) : Prop := ∃ fd, FnG P w K mg base 3 (He.ga K "_law_whole") fd ["_law_pot_here"] (spF K 1 fn__law_whole) ∧ PySem.W.keepIn K (.ref (He.ga K "_law_whole")) = true ∧ Bd K fd ["_law_pot_here"] 1 [] [0] []
theorem ok__law_whole (c : Fx K mg) (h__law_take : Ok__law_take P w K mg base) (h__law_of : Ok__law_of P w K mg base) : Ok__law_whole P w K mg base := by
  obtain ⟨fd, F⟩ := c.d__law_whole
  obtain ⟨fd__law_take, G__law_take, k__law_take, B__law_take_2_⟩ := h__law_take
  obtain ⟨fd__law_of, G__law_of, k__law_of, B__law_of_2_⟩ := h__law_of
  refine ⟨fd, fn_ok (N := ["_law_pot_here", "_law_top"]) F sc__law_whole (b := b__law_whole) (fun cdv A outer s H E hg hr => ?_), F.kp, bd0 F (fun _ _ _ _ _ _ us hl => match us, hl with | [_], _ => rfl)⟩
  have tk := takes_of (X := cxOf (L2.CX P w) P w K mg base ["_law_pot_here", "_law_top"] "_law_whole" (defScope st__law_whole) (He.ga K "_law_whole") cdv A outer s H E) (E := E) rfl rfl rfl rfl
  have hp := passes_of (X := cxOf (L2.CX P w) P w K mg base ["_law_pot_here", "_law_top"] "_law_whole" (defScope st__law_whole) (He.ga K "_law_whole") cdv A outer s H E) rfl
  exact s_cons (s_set (i := 1) sc__law_whole.nd rfl (Or.inl rfl) (e_call G__law_of (hr.mono (by decide)) hg tk rfl c.g__law_of k__law_of B__law_of_2_ (fun ds h => match ds, h with | [_, _], _ => rfl) (a_cons (e_v 0) (a_cons (e_lst (a_cons (e_int) (a_cons (e_int) (a_cons (e_int) (a_cons (e_int) (a_cons (e_int) (a_cons (e_int) (a_cons (e_call G__law_take (hr.mono (by decide)) hg tk rfl c.g__law_take k__law_take B__law_take_2_ (fun ds h => match ds, h with | [_, _], _ => rfl) (a_cons (e_v 0) (a_cons (e_int) (a_nil)))) (a_cons (e_call G__law_take (hr.mono (by decide)) hg tk rfl c.g__law_take k__law_take B__law_take_2_ (fun ds h => match ds, h with | [_, _], _ => rfl) (a_cons (e_v 0) (a_cons (e_bin o_pow (e_int) (e_int)) (a_nil)))) (a_nil)))))))))) (a_nil))))) (s_cons (s_ret (e_if (t_cmp o_gt (nomark _) (e_call G__law_take (hr.mono (by decide)) hg tk rfl c.g__law_take k__law_take B__law_take_2_ (fun ds h => match ds, h with | [_, _], _ => rfl) (a_cons (e_v 0) (a_cons (e_int) (a_nil)))) (e_int)) (e_v 1) (e_bin o_sub (e_int) (e_v 1)))) (s_nil))
def Ok__law_is_one (P : Program) (w : World) (K : PySem.W.Frag) (mg : Str → Option Value) (base : Heap) : Prop := ∃ fd, FnG P w K mg base 2 (He.ga K "_law_is_one") fd ["_law_item"] (spF K 1 fn__law_is_one) ∧ PySem.W.keepIn K (.ref (He.ga K "_law_is_one")) = true ∧ Bd K fd ["_law_item"] 1 [] [0] []
theorem ok__law_is_one (c : Fx K mg) (h__law_reduced : Ok__law_reduced P w K mg base) : Ok__law_is_one P w K mg base := by
  obtain ⟨fd, F⟩ := c.d__law_is_one
  obtain ⟨fd__law_reduced, G__law_reduced, k__law_reduced, B__law_reduced_2_⟩ := h__law_reduced
  refine ⟨fd, fn_ok (N := ["_law_item", "_law_half"]) F sc__law_is_one (b := b__law_is_one) (fun cdv A outer s H E hg hr => ?_), F.kp, bd0 F (fun _ _ _ _ _ _ us hl => match us, hl with | [_], _ => rfl)⟩
  have tk := takes_of (X := cxOf (L2.CX P w) P w K mg base ["_law_item", "_law_half"] "_law_is_one" (defScope st__law_is_one) (He.ga K "_law_is_one") cdv A outer s H E) (E := E) rfl rfl rfl rfl
  have hp := passes_of (X := cxOf (L2.CX P w) P w K mg base ["_law_item", "_law_half"] "_law_is_one" (defScope st__law_is_one) (He.ga K "_law_is_one") cdv A outer s H E) rfl
  exact s_cons (s_if (PW.pt (w_or (t_not (t_of (e_isi (k := .ty "tuple") c.cls rfl c.n_isinstance (e_v 0) (pe_bltn (v := .ty "tuple") rfl c.n_tuple (by decide +kernel) rfl) ck_ty))) (w_or1 (t_cmp (o_ne hr.units) (nomark _) (e_callB (id := "len") c_len rfl c.n_len (by decide +kernel) (a_cons (e_v 0) (a_nil))) (e_int))))) (s_cons (s_ret (e_bl)) (s_nil)) (s_nil)) (s_cons (s_if (PW.pt (w_or (t_not (t_of (e_callB (id := "all") (c_all rfl) rfl c.n_all (by decide +kernel) (a_cons (e_lc (own := [("_law_half", 1)]) rfl sc__law_is_one.nd (i_seq (e_v 0)) (blk_by ["_law_item", "_law_half"] (defScope st__law_is_one) (by decide +kernel)) (fun _ _ _ _ _ => pg_name (i := 1) sc__law_is_one.nd rfl (Or.inl rfl)) (gp_nm 1) (by decide) (fun _ _ _ _ _ => pts_nil) tt_no (fun _ _ _ _ _ => e_and (e_isi (k := .ty "int") c.cls rfl c.n_isinstance (e_v 1) (pe_bltn (v := .ty "int") rfl c.n_int (by decide +kernel) rfl) ck_ty) (e_one (e_not (e_isi (k := .ty "bool") c.cls rfl c.n_isinstance (e_v 1) (pe_bltn (v := .ty "bool") rfl c.n_bool (by decide +kernel) rfl) ck_ty))))) (a_nil))))) (w_or1 (t_cmp o_lt (nomark _) (e_ix (e_v 0) (e_int) (fun _ _ => rfl)) (e_int))))) (s_cons (s_ret (e_bl)) (s_nil)) (s_nil)) (s_cons (s_ret (e_cmp (o_eq hr.units) (nomark _) (e_v 0) (e_call G__law_reduced (hr.mono (by decide)) hg tk rfl c.g__law_reduced k__law_reduced B__law_reduced_2_ (fun ds h => match ds, h with | [_, _], _ => rfl) (a_cons (e_ix (e_v 0) (e_int) (fun _ _ => rfl)) (a_cons (e_ix (e_v 0) (e_int) (fun _ _ => rfl)) (a_nil)))))) (s_nil)))
def Ok__law_things (P : Program) (w : World) (K : PySem.W.Frag) (mg : Str → Option Value) (base : Heap) : Prop := ∃ fd, FnG P w K mg base 2 (He.ga K "_law_things") fd ["_law_pot_here", "_law_one"] (spF K 2 fn__law_things) ∧ PySem.W.keepIn K (.ref (He.ga K "_law_things")) = true ∧ Bd K fd ["_law_pot_here", "_law_one"] 2 [] [0, 1] []
theorem ok__law_things (c : Fx K mg) (h__law_take : Ok__law_take P w K mg base) : Ok__law_things P w K mg base := by
  obtain ⟨fd, F⟩ := c.d__law_things
  obtain ⟨fd__law_take, G__law_take, k__law_take, B__law_take_2_⟩ := h__law_take
  refine ⟨fd, fn_ok (N := ["_law_pot_here", "_law_one", "_law_top", "_law_low", "_law_more", "_law_found"]) F sc__law_things (b := b__law_things) (fun cdv A outer s H E hg hr => ?_), F.kp, bd0 F (fun _ _ _ _ _ _ us hl => match us, hl with | [_, _], _ => rfl)⟩
  have tk := takes_of (X := cxOf (L2.CX P w) P w K mg base ["_law_pot_here", "_law_one", "_law_top", "_law_low", "_law_more", "_law_found"] "_law_things" (defScope st__law_things) (He.ga K "_law_things") cdv A outer s H E) (E := E) rfl rfl rfl rfl
  have hp := passes_of (X := cxOf (L2.CX P w) P w K mg base ["_law_pot_here", "_law_one", "_law_top", "_law_low", "_law_more", "_law_found"] "_law_things" (defScope st__law_things) (He.ga K "_law_things") cdv A outer s H E) rfl
  exact s_cons (s_put (e_v 1) (pg_tup rfl (pgs_cons (pg_name (i := 2) sc__law_things.nd rfl (Or.inl rfl)) (pgs_cons (pg_name (i := 3) sc__law_things.nd rfl (Or.inl rfl)) (pgs_nil)))) (gp_tp rfl (gps_cons (gp_nm 2) (gps_cons (gp_nm 3) (gps_nil))))) (s_cons (s_set (i := 4) sc__law_things.nd rfl (Or.inl rfl) (e_if (t_cmp o_lt (nomark _) (e_callB (id := "max") (c_max2 rfl) rfl c.n_max (by decide +kernel) (a_cons (e_callB (id := "abs") c_abs rfl c.n_abs (by decide +kernel) (a_cons (e_v 2) (a_nil))) (a_cons (e_v 3) (a_nil)))) (e_bin o_pow (e_int) (e_int))) (e_bin o_add (e_int) (e_call G__law_take (hr.mono (by decide)) hg tk rfl c.g__law_take k__law_take B__law_take_2_ (fun ds h => match ds, h with | [_, _], _ => rfl) (a_cons (e_v 0) (a_cons (e_int) (a_nil))))) (e_int))) (s_cons (s_set (i := 5) sc__law_things.nd rfl (Or.inl rfl) (e_lst (a_cons (e_v 1) (a_cons (e_tup (a_cons (e_v 2) (a_cons (e_un o_neg (e_v 3)) (a_nil)))) (a_cons (e_tup (a_cons (e_un o_neg (e_v 2)) (a_cons (e_v 3) (a_nil)))) (a_cons (e_tup (a_cons (e_bin o_mul (e_v 2) (e_v 4)) (a_cons (e_bin o_mul (e_v 3) (e_v 4)) (a_nil)))) (a_cons (e_tup (a_cons (e_v 2) (a_cons (e_int) (a_nil)))) (a_cons (e_tup (a_cons (e_int) (a_cons (e_v 3) (a_nil)))) (a_cons (e_tup (a_cons (e_v 2) (a_cons (e_v 3) (a_cons (e_int) (a_nil))))) (a_cons (e_tup (a_cons (e_v 2) (a_nil))) (a_nil))))))))))) (s_cons (s_set (i := 5) sc__law_things.nd rfl (Or.inl rfl) (e_bin o_add (e_v 5) (e_lst (a_cons (e_lst (a_cons (e_v 2) (a_cons (e_v 3) (a_nil)))) (a_nil))))) (s_cons (s_set (i := 5) sc__law_things.nd rfl (Or.inl rfl) (e_bin o_add (e_v 5) (e_lst (a_cons (e_tup (a_cons (e_v 2) (a_cons (e_bl) (a_nil)))) (a_cons (e_tup (a_cons (e_bl) (a_cons (e_v 3) (a_nil)))) (a_cons (e_tup (a_cons (e_bl) (a_cons (e_int) (a_nil)))) (a_cons (e_tup (a_cons (e_v 2) (a_cons (e_callT (T := "str") c_str rfl c.n_str (by decide +kernel) (a_cons (e_v 3) (a_nil))) (a_nil)))) (a_cons (e_tup (a_cons (e_v 2) (a_cons (e_tup (a_cons (e_v 3) (a_nil))) (a_nil)))) (a_cons (e_tup (a_cons (e_v 1) (a_cons (e_int) (a_nil)))) (a_cons (e_non) (a_cons (e_bl) (a_cons (e_v 2) (a_nil))))))))))))) (s_cons (s_ret (e_bin o_add (e_v 5) (e_lst (a_cons (e_str) (a_cons (e_tup (a_nil)) (a_cons (e_emp) (a_cons (e_lst (a_nil)) (a_cons (e_tup (a_cons (e_non) (a_cons (e_int) (a_nil)))) (a_cons (e_tup (a_cons (e_v 2) (a_cons (e_non) (a_nil)))) (a_cons (e_tup (a_cons (e_int) (a_cons (e_int) (a_nil)))) (a_cons (e_tup (a_cons (e_int) (a_cons (e_int) (a_nil)))) (a_cons (e_tup (a_cons (e_tup (a_cons (e_int) (a_cons (e_int) (a_nil)))) (a_cons (e_tup (a_cons (e_int) (a_cons (e_int) (a_nil)))) (a_nil)))) (a_cons (e_tup (a_cons (e_v 3) (a_cons (e_v 3) (a_nil)))) (a_cons (e_tup (a_cons (e_int) (a_cons (e_int) (a_nil)))) (a_nil))))))))))))))) (s_nil))))))
def Ok__law_refused (P : Program) (w : World) (K : PySem.W.Frag) (mg : Str → Option Value) (base : Heap) : Prop := ∃ fd, FnG P w K mg base 4 (He.ga K "_law_refused") fd ["_law_top"] (spF K 1 fn__law_refused) ∧ PySem.W.keepIn K (.ref (He.ga K "_law_refused")) = true ∧ Bd K fd ["_law_top"] 1 [] [0] []
theorem ok__law_refused (c : Fx K mg) (h_part : Ok_part P w K mg base) : Ok__law_refused P w K mg base := by
  obtain ⟨fd, F⟩ := c.d__law_refused
  obtain ⟨fd_part, G_part, k_part, B_part_2_, B_part_1_, B_part_0_n_d, B_part_0_n⟩ := h_part
  refine ⟨fd, fn_ok (N := ["_law_top", "_law_caught", "error"]) F sc__law_refused (b := b__law_refused) (fun cdv A outer s H E hg hr => ?_), F.kp, bd0 F (fun _ _ _ _ _ _ us hl => match us, hl with | [_], _ => rfl)⟩
  have tk := takes_of (X := cxOf (L2.CX P w) P w K mg base ["_law_top", "_law_caught", "error"] "_law_refused" (defScope st__law_refused) (He.ga K "_law_refused") cdv A outer s H E) (E := E) rfl rfl rfl rfl
  have hp := passes_of (X := cxOf (L2.CX P w) P w K mg base ["_law_top", "_law_caught", "error"] "_law_refused" (defScope st__law_refused) (He.ga K "_law_refused") cdv A outer s H E) rfl
  exact s_cons (s_set (i := 1) sc__law_refused.nd rfl (Or.inl rfl) (e_non)) (s_cons (s_try (i := 2) rfl rfl rfl sc__law_refused.nd rfl rfl tk (caught2 c.ct__law_refused_0 (nm_own rfl c.g_LateError) (nm_own rfl c.g_Missing)) (fun W0 _ _ tk0 hp0 => s_cons (s_ex (e_call G_part (hr.mono (by decide)) hg tk0 rfl c.g_part k_part B_part_2_ (fun ds h => match ds, h with | [_, _], _ => rfl) (a_cons (e_v 0) (a_cons (e_int) (a_nil))))) (s_nil)) (fun _ _ => s_cons (s_set (i := 1) sc__law_refused.nd rfl (Or.inl rfl) (e_v 2)) (s_nil))) (s_cons (s_if (PW.pt (w_or (t_not (t_of (e_isi (k := .own "NoPart") c.cls rfl c.n_isinstance (e_v 1) (pe_glob (v := .ref (He.ga K "NoPart")) rfl c.g_NoPart rfl) ck_own))) (w_or (t_not (t_of (e_isi (k := .own "LateError") c.cls rfl c.n_isinstance (e_v 1) (pe_glob (v := .ref (He.ga K "LateError")) rfl c.g_LateError rfl) ck_own))) (w_or1 (t_not (t_of (e_isi (k := .ty "ValueError") c.cls rfl c.n_isinstance (e_v 1) (pe_bltn (v := .ty "ValueError") rfl c.n_ValueError (by decide +kernel) rfl) ck_ty))))))) (s_cons (s_ret (e_bl)) (s_nil)) (s_nil)) (s_cons (s_ret (e_and (e_cmp (o_eq hr.units) (nomark _) (e_callB (id := "repr") (c_repr hg hr.units) rfl c.n_repr (by decide +kernel) (a_cons (e_xf (c.fld_n) (e_v 1)) (a_nil))) (e_callB (id := "repr") (c_repr hg hr.units) rfl c.n_repr (by decide +kernel) (a_cons (e_v 0) (a_nil)))) (e_one (e_not (e_isiT (ks := [.own "Missing", .own "NoText", .own "NoWork", .own "TooMany"]) (cvs := [.ref (He.ga K "Missing"), .ref (He.ga K "NoText"), .ref (He.ga K "NoWork"), .ref (He.ga K "TooMany")]) c.cls (by decide) rfl c.n_isinstance (e_v 1) (pa_cons (pe_glob (v := .ref (He.ga K "Missing")) rfl c.g_Missing rfl) (pa_cons (pe_glob (v := .ref (He.ga K "NoText")) rfl c.g_NoText rfl) (pa_cons (pe_glob (v := .ref (He.ga K "NoWork")) rfl c.g_NoWork rfl) (pa_cons (pe_glob (v := .ref (He.ga K "TooMany")) rfl c.g_TooMany rfl) (pa_nil))))) (fun _ _ _ h => h) (Nat.le_of_ble_eq_true rfl) (cks_cons ck_own (cks_cons ck_own (cks_cons ck_own (cks_cons ck_own (cks_nil)))))))))) (s_nil))))
def Ok__law_right (P : Program) (w : World) (K : PySem.W.Frag) (mg : Str → Option Value) (base : Heap) : Prop := ∃ fd, FnG P w K mg base 5 (He.ga K "_law_right") fd ["_law_pot_here"] (spF K 1 fn__law_right) ∧ PySem.W.keepIn K (.ref (He.ga K "_law_right")) = true ∧ Bd K fd ["_law_pot_here"] 1 [] [0] []
theorem ok__law_right (c : Fx K mg) (h_part : Ok_part P w K mg base) (h__law_things : Ok__law_things P w K mg base) (h__law_is_one : Ok__law_is_one P w K mg base) (h_is_fraction : Ok_is_fraction P w K mg base) (h__law_reduced : Ok__law_reduced P w K mg base) (h__law_refused : Ok__law_refused P w K mg base) (h__law_whole : Ok__law_whole P w K mg base) : Ok__law_right P w K mg base := by
  obtain ⟨fd, F⟩ := c.d__law_right
  obtain ⟨fd_part, G_part, k_part, B_part_2_, B_part_1_, B_part_0_n_d, B_part_0_n⟩ := h_part
  obtain ⟨fd__law_things, G__law_things, k__law_things, B__law_things_2_⟩ := h__law_things
  obtain ⟨fd__law_is_one, G__law_is_one, k__law_is_one, B__law_is_one_1_⟩ := h__law_is_one
  obtain ⟨fd_is_fraction, G_is_fraction, k_is_fraction, B_is_fraction_0_thing, B_is_fraction_1_⟩ := h_is_fraction
  obtain ⟨fd__law_reduced, G__law_reduced, k__law_reduced, B__law_reduced_2_⟩ := h__law_reduced
  obtain ⟨fd__law_refused, G__law_refused, k__law_refused, B__law_refused_1_⟩ := h__law_refused
  obtain ⟨fd__law_whole, G__law_whole, k__law_whole, B__law_whole_1_⟩ := h__law_whole
  refine ⟨fd, fn_ok (N := ["_law_pot_here", "_law_turn", "_law_top", "_law_low", "_law_due", "_law_told", "_law_item", "_law_kept"]) F sc__law_right (b := b__law_right) (fun cdv A outer s H E hg hr => ?_), F.kp, bd0 F (fun _ _ _ _ _ _ us hl => match us, hl with | [_], _ => rfl)⟩
  have tk := takes_of (X := cxOf (L2.CX P w) P w K mg base ["_law_pot_here", "_law_turn", "_law_top", "_law_low", "_law_due", "_law_told", "_law_item", "_law_kept"] "_law_right" (defScope st__law_right) (He.ga K "_law_right") cdv A outer s H E) (E := E) rfl rfl rfl rfl
  have hp := passes_of (X := cxOf (L2.CX P w) P w K mg base ["_law_pot_here", "_law_turn", "_law_top", "_law_low", "_law_due", "_law_told", "_law_item", "_law_kept"] "_law_right" (defScope st__law_right) (He.ga K "_law_right") cdv A outer s H E) rfl
  exact s_cons (s_for hp rfl (i_rng rfl c.n_range (e_int)) (pg_name (i := 1) sc__law_right.nd rfl (Or.inl rfl)) (gp_nm 1) (s_cons (s_par (i := 2) (j := 3) rfl sc__law_right.nd rfl rfl (by decide) rfl rfl (a_cons (e_call G__law_whole (hr.mono (by decide)) hg tk rfl c.g__law_whole k__law_whole B__law_whole_1_ (fun ds h => match ds, h with | [_], _ => rfl) (a_cons (e_v 0) (a_nil))) (a_cons (e_call G__law_whole (hr.mono (by decide)) hg tk rfl c.g__law_whole k__law_whole B__law_whole_1_ (fun ds h => match ds, h with | [_], _ => rfl) (a_cons (e_v 0) (a_nil))) (a_nil))) rfl) (s_cons (s_if (PW.pt (w_or (t_not (t_of (e_call G__law_refused (hr.mono (by decide)) hg tk rfl c.g__law_refused k__law_refused B__law_refused_1_ (fun ds h => match ds, h with | [_], _ => rfl) (a_cons (e_v 2) (a_nil))))) (w_or (t_cmp (o_ne hr.units) (nomark _) (e_call G_part (hr.mono (by decide)) hg tk rfl c.g_part k_part B_part_1_ (fun ds h => match ds, h with | [_], _ => rfl) (a_cons (e_v 2) (a_nil))) (e_tup (a_cons (e_v 2) (a_cons (e_int) (a_nil))))) (w_or1 (t_cmp (o_ne hr.units) (nomark _) (e_callK0 (ks := ["n"]) G_part (hr.mono (by decide)) hg tk rfl c.g_part k_part B_part_0_n (fun ds h => match ds, h with | [_], _ => rfl) (k_cons (e_v 2) (k_nil))) (e_tup (a_cons (e_v 2) (a_cons (e_int) (a_nil))))))))) (s_cons (s_ret (e_bl)) (s_nil)) (s_nil)) (s_cons (s_set (i := 3) sc__law_right.nd rfl (Or.inl rfl) (e_if (t_cmp (o_ne hr.units) (nomark _) (e_v 3) (e_int)) (e_v 3) (e_int))) (s_cons (s_set (i := 4) sc__law_right.nd rfl (Or.inl rfl) (e_call G__law_reduced (hr.mono (by decide)) hg tk rfl c.g__law_reduced k__law_reduced B__law_reduced_2_ (fun ds h => match ds, h with | [_, _], _ => rfl) (a_cons (e_v 2) (a_cons (e_v 3) (a_nil))))) (s_cons (s_set (i := 5) sc__law_right.nd rfl (Or.inl rfl) (e_lst (a_cons (e_call G_part (hr.mono (by decide)) hg tk rfl c.g_part k_part B_part_2_ (fun ds h => match ds, h with | [_, _], _ => rfl) (a_cons (e_v 2) (a_cons (e_v 3) (a_nil)))) (a_cons (e_callK0 (ks := ["n", "d"]) G_part (hr.mono (by decide)) hg tk rfl c.g_part k_part B_part_0_n_d (fun ds h => match ds, h with | [_, _], _ => rfl) (k_cons (e_v 2) (k_cons (e_v 3) (k_nil)))) (a_cons (e_call G_part (hr.mono (by decide)) hg tk rfl c.g_part k_part B_part_2_ (fun ds h => match ds, h with | [_, _], _ => rfl) (a_cons (e_un o_neg (e_v 2)) (a_cons (e_un o_neg (e_v 3)) (a_nil)))) (a_nil)))))) (s_cons (s_if (PW.pt (w_or (t_cmp (o_ne hr.units) (nomark _) (e_callB (id := "repr") (c_repr hg hr.units) rfl c.n_repr (by decide +kernel) (a_cons (e_v 5) (a_nil))) (e_callB (id := "repr") (c_repr hg hr.units) rfl c.n_repr (by decide +kernel) (a_cons (e_bin o_mul (e_lst (a_cons (e_v 4) (a_nil))) (e_int)) (a_nil)))) (w_or1 (t_not (t_of (e_call G_is_fraction (hr.mono (by decide)) hg tk rfl c.g_is_fraction k_is_fraction B_is_fraction_1_ (fun ds h => match ds, h with | [_], _ => rfl) (a_cons (e_v 4) (a_nil)))))))) (s_cons (s_ret (e_bl)) (s_nil)) (s_nil)) (s_cons (s_for hp rfl (i_seq (e_call G__law_things (hr.mono (by decide)) hg tk rfl c.g__law_things k__law_things B__law_things_2_ (fun ds h => match ds, h with | [_, _], _ => rfl) (a_cons (e_v 0) (a_cons (e_v 4) (a_nil))))) (pg_name (i := 6) sc__law_right.nd rfl (Or.inl rfl)) (gp_nm 6) (s_cons (s_par (i := 7) (j := 5) rfl sc__law_right.nd rfl rfl (by decide) rfl rfl (a_cons (e_callB (id := "repr") (c_repr hg hr.units) rfl c.n_repr (by decide +kernel) (a_cons (e_v 6) (a_nil))) (a_cons (e_lst (a_cons (e_call G_is_fraction (hr.mono (by decide)) hg tk rfl c.g_is_fraction k_is_fraction B_is_fraction_1_ (fun ds h => match ds, h with | [_], _ => rfl) (a_cons (e_v 6) (a_nil))) (a_cons (e_callK0 (ks := ["thing"]) G_is_fraction (hr.mono (by decide)) hg tk rfl c.g_is_fraction k_is_fraction B_is_fraction_0_thing (fun ds h => match ds, h with | [_], _ => rfl) (k_cons (e_v 6) (k_nil))) (a_nil)))) (a_nil))) rfl) (s_cons (s_if (PW.pt (w_or (t_cmp (o_ne hr.units) (nomark _) (e_callB (id := "repr") (c_repr hg hr.units) rfl c.n_repr (by decide +kernel) (a_cons (e_v 5) (a_nil))) (e_callB (id := "repr") (c_repr hg hr.units) rfl c.n_repr (by decide +kernel) (a_cons (e_bin o_mul (e_lst (a_cons (e_call G__law_is_one (hr.mono (by decide)) hg tk rfl c.g__law_is_one k__law_is_one B__law_is_one_1_ (fun ds h => match ds, h with | [_], _ => rfl) (a_cons (e_v 6) (a_nil))) (a_nil))) (e_int)) (a_nil)))) (w_or1 (t_cmp (o_ne hr.units) (nomark _) (e_callB (id := "repr") (c_repr hg hr.units) rfl c.n_repr (by decide +kernel) (a_cons (e_v 6) (a_nil))) (e_v 7))))) (s_cons (s_ret (e_bl)) (s_nil)) (s_nil)) (s_nil)))) (s_nil))))))))) (s_cons (s_ret (e_and (e_cmp (o_eq hr.units) (nomark _) (e_call G_part (hr.mono (by decide)) hg tk rfl c.g_part k_part B_part_1_ (fun ds h => match ds, h with | [_], _ => rfl) (a_cons (e_int) (a_nil))) (e_tup (a_cons (e_int) (a_cons (e_int) (a_nil))))) (e_one (e_cmp (o_eq hr.units) (nomark _) (e_call G_part (hr.mono (by decide)) hg tk rfl c.g_part k_part B_part_2_ (fun ds h => match ds, h with | [_, _], _ => rfl) (a_cons (e_int) (a_cons (e_un o_neg (e_int)) (a_nil)))) (e_tup (a_cons (e_int) (a_cons (e_int) (a_nil)))))))) (s_nil))
def Ok_law (P : Program) (w : World) (K : PySem.W.Frag) (mg : Str → Option Value) (base : Heap) : Prop := ∃ fd, FnG P w K mg base 6 (He.ga K "law") fd ["_law_script"] (spF K 1 fn_law) ∧ PySem.W.keepIn K (.ref (He.ga K "law")) = true ∧ FunD K "law" "law" (defArgs st_law) (defBody st_law) (defScope st_law) [] [] (He.ga K "law") fd
theorem ok_law (c : Fx K mg) (h__law_right : Ok__law_right P w K mg base) (h__law_pot : Ok__law_pot P w K mg base) : Ok_law P w K mg base := by
  obtain ⟨fd, F⟩ := c.d_law
  obtain ⟨fd__law_right, G__law_right, k__law_right, B__law_right_1_⟩ := h__law_right
  obtain ⟨fd__law_pot, G__law_pot, k__law_pot, B__law_pot_2_⟩ := h__law_pot
  refine ⟨fd, fn_ok (N := ["_law_script", "_law_k"]) F sc_law (b := b_law) (fun cdv A outer s H E hg hr => ?_), F.kp, F⟩
  have tk := takes_of (X := cxOf (L2.CX P w) P w K mg base ["_law_script", "_law_k"] "law" (defScope st_law) (He.ga K "law") cdv A outer s H E) (E := E) rfl rfl rfl rfl
  have hp := passes_of (X := cxOf (L2.CX P w) P w K mg base ["_law_script", "_law_k"] "law" (defScope st_law) (He.ga K "law") cdv A outer s H E) rfl
  exact s_cons (s_ret (e_callB (id := "all") (c_all rfl) rfl c.n_all (by decide +kernel) (a_cons (e_lc (own := [("_law_k", 1)]) rfl sc_law.nd (i_rng rfl c.n_range (e_callB (id := "max") (c_max2 rfl) rfl c.n_max (by decide +kernel) (a_cons (e_int) (a_cons (e_callB (id := "min") (c_min2 rfl) rfl c.n_min (by decide +kernel) (a_cons (e_int) (a_cons (e_callB (id := "len") c_len rfl c.n_len (by decide +kernel) (a_cons (e_v 0) (a_nil))) (a_nil)))) (a_nil))))) (blk_by ["_law_script", "_law_k"] (defScope st_law) (by decide +kernel)) (fun _ _ _ _ _ => pg_name (i := 1) sc_law.nd rfl (Or.inl rfl)) (gp_nm 1) (by decide) (fun _ _ _ _ _ => pts_nil) tt_no (fun _ _ _ _ _ => e_call G__law_right (hr.mono (by decide)) hg tk_no rfl c.g__law_right k__law_right B__law_right_1_ (fun ds h => match ds, h with | [_], _ => rfl) (a_cons (e_call G__law_pot (hr.mono (by decide)) hg tk_no rfl c.g__law_pot k__law_pot B__law_pot_2_ (fun ds h => match ds, h with | [_, _], _ => rfl) (a_cons (e_v 0) (a_cons (e_v 1) (a_nil)))) (a_nil)))) (a_nil)))) (s_nil)
end
end P
namespace Z
open PySem PySem.Spec PyProof.Rows L2
/-! ### what the head tells -/
theorem mem_lk {α β : Type} [BEq α] [LawfulBEq α] {a : α} {b : β} {l : List (α × β)} (h : l.lookup a = some b) : (a, b) ∈ l := by
  induction l with
  | nil => cases h
  | cons p r ih =>
    obtain ⟨c, d⟩ := p
    rw [List.lookup_cons] at h
    by_cases q : (a == c) = true
    · rw [q] at h
      rw [beq_iff_eq.mp q]
      cases h
      exact List.mem_cons_self
    · rw [Bool.eq_false_iff.mpr q] at h
      exact List.mem_cons_of_mem _ (ih h)
def clsB (K : PySem.W.Frag) (tab : Tab) : Bool := tabB K tab && (dscB K && tab.all fun p => match p.1.1 with
  | .own c => excB K c
  | _ => true)
theorem clsB_ok {K : PySem.W.Frag} {tab : Tab} (h : clsB K tab = true) : ClsOk K tab := by
  obtain ⟨h1, h2⟩ := He.ba h
  obtain ⟨h3, h4⟩ := He.ba h2
  refine ⟨h1, h3, fun c k b e => ?_⟩
  exact excB_ok (List.all_eq_true.mp h4 ((.own c, k), b) (mem_lk e))
def fldB (K : PySem.W.Frag) (f : Str) (c : Str) : Bool := excB K c && decide (PySem.W.findIn K (.ref (He.ga K c)) f = some none)
theorem fldB_ok {K : PySem.W.Frag} {f : Str} {cs : List Str} (h : cs.all (fldB K f) = true) : ∀ c ∈ cs, ExcF K c ∧ PySem.W.findIn K (.ref (He.ga K c)) f = some none := fun c hc =>
  have q := He.ba (List.all_eq_true.mp h c hc)
  ⟨excB_ok q.1, of_decide_eq_true q.2⟩
def modB (K : PySem.W.Frag) (x : Str) (id : String) : Bool := decide (PySem.W.nsIn K mainGlobals x = some (some (.builtin id)))
theorem modB_ok {K : PySem.W.Frag} {h : Heap} {mg : Str → Option Value} (X : K.In h) (G : h.Ns mainGlobals mg) {x : Str} {id : String} (c : modB K x id = true) : mg x = some (.builtin id) := PySem.W.mg_of X G (of_decide_eq_true c)
/-- the look: the named part of the heap, one Bool more -/
def part (n : Nat) (g : Addr → Option Obj) : PySem.W.Frag := He.frG g (He.asD g n)
def look (n : Nat) (fa : List He.Fa) (fn : List He.DefD) (ex : PySem.W.Frag → Bool) (g : Addr → Option Obj) : Bool × He.AlD := (ex (part n g), He.obsD fa fn (part n g))
structure Told (fa : List He.Fa) (fn : List He.DefD) (ex : PySem.W.Frag → Bool) (K : PySem.W.Frag) : Prop where
  d : He.SaysD fa fn K
  x : ex K = true
def hookG (n : Nat) (fa : List He.Fa) (fn : List He.DefD) (ex : PySem.W.Frag → Bool) : PySem.W.Hook where
  α := Bool × He.AlD
  obs := fun s => look n fa fn ex s.heap.get?
  val := fun _ => (true, He.valD fn)
  says := fun _ h => ∃ K : PySem.W.Frag, K.In h ∧ Told fa fn ex K
  of := fun _ s e => ⟨part n s.heap.get?, He.frG_in, (Prod.mk.inj e).2, (Prod.mk.inj e).1⟩
  keeps := fun _ _ _ ⟨K, hK, c⟩ k => ⟨K, hK.keeps k, c⟩
theorem look_eq {n : Nat} {fa : List He.Fa} {fn : List He.DefD} {ex : PySem.W.Frag → Bool} (s : PySem.W.SharedT) : look n fa fn ex (HandSHeadRun.getT s) = (hookG n fa fn ex).obs s.abs :=
  congrArg (look n fa fn ex) (funext (HandSHeadRun.getT_eq s))
theorem fund_one {K : PySem.W.Frag} {x qual : Str} {params : Arguments} {body : List Stmt} {scope : Scope} {dvs : List V} {kws : List (Str × V)} {f : Addr} {fd fd' : FuncData} (F : FunD K x qual params body scope dvs kws f fd) (F' : FunD K x qual params body scope dvs kws f fd') : fd = fd' := by
  obtain ⟨_, _, _, _, _, _, _, _, _, _, e, lk, _⟩ := F.ex
  obtain ⟨_, _, _, _, _, _, _, _, _, _, e', lk', _⟩ := F'.ex
  rw [lk] at lk'
  clear e e'
  cases lk'
  rfl
/-! ### the law's call, from the def's function -/
/-- the script, and nothing else, may be watched -/
structure Solo (K : PySem.W.Frag) (H : Hp) (a : Addr) : Prop where
  one : ∀ b, H b ≠ none → b = a ∧ K.lookup a = none ∧ ∃ o xs, H b = some (.frz o (.lst xs))
theorem Solo.off {K : PySem.W.Frag} {H : Hp} {a b : Addr} (S : Solo K H a) {h : Heap} {o : Obj} {vs : List Value} (ha : h.get? a = some { cls := .type "list", data := .seq vs.toArray }) (e : h.get? b = some o) (hd : ∃ es ep, o.data = .dict es ep) : H b = none := by
  by_cases q : H b = none
  · exact q
  · obtain ⟨rfl, _⟩ := S.one b q
    rw [ha] at e
    obtain ⟨es, ep, hd⟩ := hd
    cases e
    cases hd
theorem call_core {P : Program} {w : World} {K : PySem.W.Frag} {mg mb : Str → Option Value} {k : Nat} {fa a : Addr} {fd : FuncData} {x : Str} {s₁ : Shared} {vs : List Value} {sp : Sp} {H : Hp}
    (KX : K.In s₁.heap) (hns : s₁.heap.Ns mainGlobals mg) (hb : s₁.heap.Ns builtinsNs mb) (hbb : ∀ x : Str, x ≠ "__name__" → mb x = bootBuiltins x) (hlim : s₁.heap.NoLimit) (hg : s₁.gens = #[])
    (ha : s₁.heap.get? a = some { cls := .type "list", data := .seq vs.toArray }) (hr : Room k callerA)
    (F : ∀ base : Heap, K.In base → base.Ns mainGlobals mg → FnG P w K mg base k fa fd [x] sp) (hbind : ∀ (s : Shared) (u : Value), BindsTo s fd ⟨[u], []⟩ [(x, u)])
    (S : Solo K H a) (hok : HOk P w H s₁.heap) (hsp : sp [.ref a] H (fun v _ => v = .bl true) fun _ _ _ => False) :
    codeAny (model P w) callerA (.call (.ref fa) ⟨[.ref a], []⟩) (fun r s' => r = .ok (.ret (.bool true)) ∧ OldK s₁.heap s'.heap ∧ s'.os = s₁.os ∧ AllBare s'.gens) s₁ := by
  have kin : K.In (hidT s₁.heap H) := fun b o e => hidT_get (KX b o e) (Classical.byContradiction fun z => by
    obtain ⟨rfl, n, _⟩ := S.one b z
    rw [n] at e
    cases e)
  have dicts : ∀ {b : Addr} {m : Str → Option Value}, s₁.heap.Ns b m → (hidT s₁.heap H).Ns b m := fun ⟨o, es, ep, e, d, r⟩ => ⟨o, es, ep, hidT_get e (S.off ha e ⟨es, ep, d⟩), d, r⟩
  obtain ⟨mc, l1, l2⟩ := hlim
  have env : Env0 P w K mg (hidT s₁.heap H) callerA [] s₁ H :=
    { frames := rfl, mod := ⟨kin, dicts hns, ⟨mb, dicts hb, hbb⟩, ⟨mc, dicts l1, l2⟩⟩, bs := fun b o e => of_hidT e, bsz := Nat.le_of_eq (hidT_size _ _), funs := trivial, frf := fun b hb => (by cases hb), hok := hok, bare := .of_eq hg }
  refine codeAny_mono ((F _ kin (dicts hns)).run callerA [] s₁ H ⟨[.ref a], []⟩ [.ref a] [.ref a] _ _ rfl hr env (hbind s₁ (.ref a)) (.cons rfl .nil) hsp) ?_
  intro r s' h
  match r, h with
  | .error e, h =>
    obtain ⟨_, _, _, _, _, _, _, _, _, _, _, _, bad⟩ := h
    exact bad.elim
  | .ok .next, h => exact False.elim h
  | .ok .brk, h => exact False.elim h
  | .ok .cont, h => exact False.elim h
  | .ok (.ret u), ⟨v, H', os, bare, un, hok', r', (q : v = .bl true)⟩ =>
    subst q
    have eu : u = Value.bool true := r'
    subst eu
    refine ⟨rfl, OldK.of_keep (fun b o e => ?_), os, bare⟩
    by_cases z : H b = none
    · exact un.keep b o e z (fun q => by cases q) (by simp)
    · obtain ⟨rfl, _, ob, xs, eq⟩ := S.one b z
      have f1 := (hok b _ eq).1
      have f2 := (hok' b _ (un.frzs b ob _ eq)).1
      rw [f1] at e
      cases e
      exact f2
theorem walk_ofG {l : PySem.W.OpenLaw} {n k : Nat} {q : Program} {loose : List Str} {XP : (Str → Option Value) → Heap → Prop} {YP : World → Heap → Prop} {d : DefRec} {x : Str} {fn : List D → Sto → Res}
    (hn : l.most = some n) (hn2 : n ≤ sizeLine) (hdf : d.params.defaults = []) (hr : Room k callerA)
    (F : ∀ (w : World) (mg : Str → Option Value) (fa : Addr) (h : Heap), YP w h → h.Ns mainGlobals mg → mg d.name = some (.ref fa) →
      ∃ (K : PySem.W.Frag) (fd : FuncData), K.In h ∧ (∀ (s : Shared) (u : Value), BindsTo s fd ⟨[u], []⟩ [(x, u)]) ∧ ∀ base : Heap, K.In base → base.Ns mainGlobals mg → FnG l.prog w K mg base k fa fd [x] (spF K 1 fn))
    (math : ∀ ns : List Int, ns.length ≤ n → ∃ S, fn [.fl (ns.map .int)] [] = .ok (.bl true) S) :
    PySem.W.WalkO q loose XP YP l.row.toRowW d [] (fun f vs => PySem.call f vs) := by
  refine Att.attach_call hn hdf fun w s₀ s₁ mg mb fa o pm cd doc a vs ns G Y ho hd hcd hmg hobj hints hlen hg => ?_
  obtain ⟨K, fd, KX, hb, hF⟩ := F w mg fa _ Y G.T.g hmg
  obtain ⟨S, hS⟩ := math ns hlen
  have size := Nat.le_trans hlen hn2
  have vals := vals_ints hints
  have data : ∀ {H : Hp}, RVs K H [] (ns.map .int) (ns.map V.int) := fun {H} => by
    clear hS hlen hints vals size
    induction ns with
    | nil => exact .nil
    | cons i t ih => exact .cons (.int i) ih
  have told : ∀ H : Hp, SqF K H a (ns.map V.int) → spF K 1 fn [.ref a] H (fun v _ => v = .bl true) fun _ _ _ => False := fun H hq => by
    refine ⟨[], [], [.fl (ns.map .int)], rfl, ⟨rfl, fun i j a h => (by cases h), fun i c h => (by cases h)⟩, .cons (.fl hq data) .nil, ?_⟩
    rw [hS]
    intro H' m' v _ _ r
    cases r
    rfl
  cases hk : K.lookup a with
  | some o1 =>
    have e := KX a o1 hk
    rw [hobj] at e
    cases e
    exact call_core KX G.T.g G.T.b G.T.builtins G.T.nolimit hg hobj hr hF hb (H := fun _ => none) ⟨fun b z => absurd rfl z⟩ (fun b u z => nomatch (show (none : Option HO) = some u from z))
      (told _ (.inr (.inr ⟨_, vs.toArray, _, hk, rfl, rfl, rfl, by rw [List.size_toArray, hints.length]; exact size, by simpa using vals⟩)))
  | none =>
    let c : HO := .frz { cls := .type "list", data := .seq vs.toArray } (.lst (ns.map V.int))
    refine call_core KX G.T.g G.T.b G.T.builtins G.T.nolimit hg hobj hr hF hb (H := fun b => if b = a then some c else none) ⟨fun b z => ?_⟩ (fun b u z => ?_) (told _ (.inl ⟨_, if_pos rfl⟩))
    · by_cases hba : b = a
      · exact ⟨hba, hk, _, _, if_pos hba⟩
      · exact absurd (if_neg hba) z
    · by_cases hba : b = a
      · subst hba
        have z2 := (if_pos rfl).symm.trans z
        cases z2
        exact ⟨hobj, by rw [List.length_map]; exact size, vs, _, vals, hobj⟩
      · have z2 := (if_neg hba).symm.trans z
        cases z2
end Z
namespace P
open PySem PySem.Spec PyProof.Rows L2 Z
def dd_is_whole : He.DefD := ⟨("is_whole", none), "is_whole", "is_whole", defArgs st_is_whole, defBody st_is_whole, defScope st_is_whole, [], []⟩
def dd_is_fraction : He.DefD := ⟨("is_fraction", none), "is_fraction", "is_fraction", defArgs st_is_fraction, defBody st_is_fraction, defScope st_is_fraction, [], []⟩
def dd_part : He.DefD := ⟨("part", none), "part", "part", defArgs st_part, defBody st_part, defScope st_part, [.int 1], []⟩
def dd__law_pot : He.DefD := ⟨("_law_pot", none), "_law_pot", "_law_pot", defArgs st__law_pot, defBody st__law_pot, defScope st__law_pot, [], []⟩
def dd__law_take : He.DefD := ⟨("_law_take", none), "_law_take", "_law_take", defArgs st__law_take, defBody st__law_take, defScope st__law_take, [], []⟩
def dd__law_of : He.DefD := ⟨("_law_of", none), "_law_of", "_law_of", defArgs st__law_of, defBody st__law_of, defScope st__law_of, [], []⟩
def dd__law_reduced : He.DefD := ⟨("_law_reduced", none), "_law_reduced", "_law_reduced", defArgs st__law_reduced, defBody st__law_reduced, defScope st__law_reduced, [], []⟩
def dd__law_whole : He.DefD := ⟨("_law_whole", none), "_law_whole", "_law_whole", defArgs st__law_whole, defBody st__law_whole, defScope st__law_whole, [], []⟩
def dd__law_is_one : He.DefD := ⟨("_law_is_one", none), "_law_is_one", "_law_is_one", defArgs st__law_is_one, defBody st__law_is_one, defScope st__law_is_one, [], []⟩
def dd__law_things : He.DefD := ⟨("_law_things", none), "_law_things", "_law_things", defArgs st__law_things, defBody st__law_things, defScope st__law_things, [], []⟩
def dd__law_refused : He.DefD := ⟨("_law_refused", none), "_law_refused", "_law_refused", defArgs st__law_refused, defBody st__law_refused, defScope st__law_refused, [], []⟩
def dd__law_right : He.DefD := ⟨("_law_right", none), "_law_right", "_law_right", defArgs st__law_right, defBody st__law_right, defScope st__law_right, [], []⟩
def dd_law : He.DefD := ⟨("law", none), "law", "law", defArgs st_law, defBody st_law, defScope st_law, [], []⟩
def dd_init_NoPart : He.DefD := ⟨("NoPart", some "__init__"), "__init__", "NoPart.__init__", defArgs si_NoPart, defBody si_NoPart, defScope si_NoPart, [], []⟩
def fnl : List He.DefD := [dd_is_whole, dd_is_fraction, dd_part, dd__law_pot, dd__law_take, dd__law_of, dd__law_reduced, dd__law_whole, dd__law_is_one, dd__law_things, dd__law_refused, dd__law_right, dd_law, dd_init_NoPart]
def fal : List He.Fa := [.glo "LateError", .glo "Missing", .glo "NoPart", .glo "NoText", .glo "NoWork", .glo "TooMany", .glo "_law_is_one", .glo "_law_of", .glo "_law_pot", .glo "_law_reduced", .glo "_law_refused", .glo "_law_right", .glo "_law_take", .glo "_law_things", .glo "_law_whole", .glo "is_fraction", .glo "is_whole", .glo "part", .glo "law", .free "ValueError", .free "abs", .free "all", .free "bool", .free "int", .free "isinstance", .free "len", .free "max", .free "min", .free "range", .free "repr", .free "str", .free "tuple"]
def exl (K : PySem.W.Frag) : Bool := clsB K itab && (modB K "gcd" "math.gcd" && (rsB K "NoPart" && ([("NoPart" : Str)].all (fldB K "n") && (decide (PySem.W.findIn K (.ref (He.ga K "NoPart")) "n" = some none) && (caughtB K ct__law_refused_0 [.own "LateError", .own "Missing"])))))
theorem fx_of {K : PySem.W.Frag} {h : Heap} {mg : Str → Option Value} (X : K.In h) (G : h.Ns mainGlobals mg) (T : Told fal fnl exl K) : Fx K mg := by
  obtain ⟨e_cls, r0⟩ := He.ba T.x
  obtain ⟨e_m_gcd, r1⟩ := He.ba r0
  obtain ⟨e_rs_NoPart, r2⟩ := He.ba r1
  obtain ⟨e_fld_n, r3⟩ := He.ba r2
  obtain ⟨e_no_NoPart, r4⟩ := He.ba r3
  have e_ct__law_refused_0 := r4
  exact
    { g_LateError := He.glo_ok X G (T.d.fact 0 (f := .glo "LateError") rfl)
      g_Missing := He.glo_ok X G (T.d.fact 1 (f := .glo "Missing") rfl)
      g_NoPart := He.glo_ok X G (T.d.fact 2 (f := .glo "NoPart") rfl)
      g_NoText := He.glo_ok X G (T.d.fact 3 (f := .glo "NoText") rfl)
      g_NoWork := He.glo_ok X G (T.d.fact 4 (f := .glo "NoWork") rfl)
      g_TooMany := He.glo_ok X G (T.d.fact 5 (f := .glo "TooMany") rfl)
      g__law_is_one := He.glo_ok X G (T.d.fact 6 (f := .glo "_law_is_one") rfl)
      g__law_of := He.glo_ok X G (T.d.fact 7 (f := .glo "_law_of") rfl)
      g__law_pot := He.glo_ok X G (T.d.fact 8 (f := .glo "_law_pot") rfl)
      g__law_reduced := He.glo_ok X G (T.d.fact 9 (f := .glo "_law_reduced") rfl)
      g__law_refused := He.glo_ok X G (T.d.fact 10 (f := .glo "_law_refused") rfl)
      g__law_right := He.glo_ok X G (T.d.fact 11 (f := .glo "_law_right") rfl)
      g__law_take := He.glo_ok X G (T.d.fact 12 (f := .glo "_law_take") rfl)
      g__law_things := He.glo_ok X G (T.d.fact 13 (f := .glo "_law_things") rfl)
      g__law_whole := He.glo_ok X G (T.d.fact 14 (f := .glo "_law_whole") rfl)
      g_is_fraction := He.glo_ok X G (T.d.fact 15 (f := .glo "is_fraction") rfl)
      g_is_whole := He.glo_ok X G (T.d.fact 16 (f := .glo "is_whole") rfl)
      g_part := He.glo_ok X G (T.d.fact 17 (f := .glo "part") rfl)
      n_ValueError := He.free_ok X G (T.d.fact 19 (f := .free "ValueError") rfl)
      n_abs := He.free_ok X G (T.d.fact 20 (f := .free "abs") rfl)
      n_all := He.free_ok X G (T.d.fact 21 (f := .free "all") rfl)
      n_bool := He.free_ok X G (T.d.fact 22 (f := .free "bool") rfl)
      n_int := He.free_ok X G (T.d.fact 23 (f := .free "int") rfl)
      n_isinstance := He.free_ok X G (T.d.fact 24 (f := .free "isinstance") rfl)
      n_len := He.free_ok X G (T.d.fact 25 (f := .free "len") rfl)
      n_max := He.free_ok X G (T.d.fact 26 (f := .free "max") rfl)
      n_min := He.free_ok X G (T.d.fact 27 (f := .free "min") rfl)
      n_range := He.free_ok X G (T.d.fact 28 (f := .free "range") rfl)
      n_repr := He.free_ok X G (T.d.fact 29 (f := .free "repr") rfl)
      n_str := He.free_ok X G (T.d.fact 30 (f := .free "str") rfl)
      n_tuple := He.free_ok X G (T.d.fact 31 (f := .free "tuple") rfl)
      d_is_whole := T.d.def_ 0 (d := dd_is_whole) rfl
      d_is_fraction := T.d.def_ 1 (d := dd_is_fraction) rfl
      d_part := T.d.def_ 2 (d := dd_part) rfl
      d__law_pot := T.d.def_ 3 (d := dd__law_pot) rfl
      d__law_take := T.d.def_ 4 (d := dd__law_take) rfl
      d__law_of := T.d.def_ 5 (d := dd__law_of) rfl
      d__law_reduced := T.d.def_ 6 (d := dd__law_reduced) rfl
      d__law_whole := T.d.def_ 7 (d := dd__law_whole) rfl
      d__law_is_one := T.d.def_ 8 (d := dd__law_is_one) rfl
      d__law_things := T.d.def_ 9 (d := dd__law_things) rfl
      d__law_refused := T.d.def_ 10 (d := dd__law_refused) rfl
      d__law_right := T.d.def_ 11 (d := dd__law_right) rfl
      d_law := T.d.def_ 12 (d := dd_law) rfl
      i_NoPart := T.d.def_ 13 (d := dd_init_NoPart) rfl
      cls := clsB_ok e_cls
      m_gcd := modB_ok X G e_m_gcd
      rs_NoPart := rsB_ok e_rs_NoPart
      fld_n := fldB_ok e_fld_n
      no_NoPart := of_decide_eq_true e_no_NoPart
      ct__law_refused_0 := e_ct__law_refused_0 }
abbrev hk : PySem.W.Hook := hookG 5 fal fnl exl
def ob (s : PySem.W.SharedT) : Bool × He.AlD := look 5 fal fnl exl (HandSHeadRun.getT s)
theorem ob_eq (s : PySem.W.SharedT) : ob s = hk.obs s.abs := look_eq s
def loose : List Str := (["LateError", "NoPart", "NoText", "TooMany", "NoWork", "Missing", "is_whole", "is_fraction", "part", "_law_pot", "_law_take", "_law_of", "_law_reduced", "_law_whole", "_law_is_one", "_law_things", "_law_refused", "_law_right"] : List Str)
abbrev Rw : PySem.W.OpenRow := PySem.W.OpenLaw.row PySem.Challenge.rw_lateshares_k01_fractions_of_anything
abbrev vw : Program := PySem.W.view Rw.prog [0, 22]
theorem run (w : World) : HandSHeadRun.RunEqI Rw vw hk ob 6000 loose w := by
  unfold HandSHeadRun.RunEqI
  kernel_rfl
theorem pick_law {P : Program} {w : World} {K : PySem.W.Frag} {mg : Str → Option Value} {base : Heap} (c : Fx K mg) : Ok_law P w K mg base :=
  have o_is_whole : Ok_is_whole P w K mg base := ok_is_whole c
  have o_is_fraction : Ok_is_fraction P w K mg base := ok_is_fraction c o_is_whole
  have o_part : Ok_part P w K mg base := ok_part c
  have o__law_pot : Ok__law_pot P w K mg base := ok__law_pot c
  have o__law_take : Ok__law_take P w K mg base := ok__law_take c
  have o__law_of : Ok__law_of P w K mg base := ok__law_of c o__law_take
  have o__law_reduced : Ok__law_reduced P w K mg base := ok__law_reduced c
  have o__law_whole : Ok__law_whole P w K mg base := ok__law_whole c o__law_take o__law_of
  have o__law_is_one : Ok__law_is_one P w K mg base := ok__law_is_one c o__law_reduced
  have o__law_things : Ok__law_things P w K mg base := ok__law_things c o__law_take
  have o__law_refused : Ok__law_refused P w K mg base := ok__law_refused c o_part
  have o__law_right : Ok__law_right P w K mg base := ok__law_right c o_part o__law_things o__law_is_one o_is_fraction o__law_reduced o__law_refused o__law_whole
  ok_law c o__law_right o__law_pot
theorem law_facts {P : Program} {w : World} {K : PySem.W.Frag} {h : Heap} {mg : Str → Option Value} {f : Addr} (X : K.In h) (G : h.Ns mainGlobals mg) (hfa : mg "law" = some (.ref f)) (T : Told fal fnl exl K) :
    ∃ fd : FuncData, (∀ (s : Shared) (v : Value), BindsTo s fd ⟨[v], []⟩ [("_law_script", v)]) ∧ ∀ base : Heap, FnG P w K mg base 6 f fd ["_law_script"] (spF K 1 fn_law) := by
  have c := fx_of X G T
  have e := hfa.symm.trans (He.glo_ok X G (T.d.fact 18 (f := .glo "law") rfl))
  cases e
  obtain ⟨fd0, F⟩ := c.d_law
  refine ⟨fd0, fun s v => L2.FunD.bindsA (ps := ["_law_script"]) F (fun _ _ _ _ _ _ us hl => match us, hl with | [_], _ => rfl) s [v] rfl, fun base => ?_⟩
  obtain ⟨fd1, G1, _, F1⟩ := pick_law (P := P) (w := w) (base := base) c
  rw [fund_one F F1]
  exact G1
end P
namespace P
open PySem PySem.Spec PyProof.Rows L2 Z
def PM : Int := 2305843009213693951
/-- the pot's two numbers -/
def Pot (g s : Int) : Prop := 0 ≤ g ∧ 0 ≤ s ∧ s < PM
abbrev pc (g s : Int) : Cell := .lst [.int g, .int s]
theorem log_le {i : Int} {k : Nat} (h : i.natAbs < 2 ^ (k + 1)) : i.natAbs.log2 ≤ k := by
  by_cases z : i.natAbs = 0
  · rw [z]; exact Nat.zero_le _
  · exact Nat.le_of_lt_succ ((Nat.log2_lt z).mpr h)
def Sm (i : Int) : Prop := i.natAbs < 2 ^ 1000
theorem sm_of {i : Int} (h1 : -(2 ^ 200) ≤ i) (h2 : i ≤ 2 ^ 200) : Sm i := by
  have h : i.natAbs ≤ 2 ^ 200 := by omega
  exact Nat.lt_of_le_of_lt h (by decide)
theorem gMul_sm {i j : Int} {S : Sto} (h1 : Sm i) (h2 : Sm j) : gMul (.int i) (.int j) S = .ok (.int (i * j)) S := by
  have a : ∀ {i : Int}, Sm i → i.natAbs.log2 ≤ 999 := fun h => log_le h
  have b : i.natAbs.log2 + j.natAbs.log2 < 1000000 := by have := a h1; have := a h2; omega
  show (if i.natAbs.log2 + j.natAbs.log2 < 1000000 then Res.ok (.int (i * j)) S else .bad) = _
  rw [if_pos b]
theorem take_ok {S : Sto} {p : Nat} {g s u : Int} (hp : S[p]? = some (pc g s)) (P0 : Pot g s) (hu : 1 ≤ u) (hu2 : u < 2 ^ 64) :
    ∃ r g' s', 0 ≤ r ∧ r < u ∧ Pot g' s' ∧ fn__law_take [.ref p, .int u] S = .ok (.int r) (S.set p (pc g' s')) := by
  obtain ⟨h1, h2, h3⟩ := P0
  have hl : u.natAbs.log2 < 9000 := Nat.lt_of_le_of_lt (log_le (k := 63) (by omega)) (by decide)
  have lt : p < S.length := by
    obtain ⟨h, _⟩ := List.getElem?_eq_some_iff.mp hp
    exact h
  have hset : ∀ c, (S.set p c)[p]? = some c := fun c => by rw [List.getElem?_set_self lt]
  by_cases hg : 0 < g
  · refine ⟨g % u, g / u, s, Int.emod_nonneg _ (by omega), Int.emod_lt_of_pos _ (by omega), ⟨Int.ediv_nonneg h1 (by omega), h2, h3⟩, ?_⟩
    have e1 : g.fdiv u = g / u := Int.fdiv_eq_ediv_of_nonneg g (by omega)
    simp [fn__law_take, b__law_take, vV, vC, vBin, vUn, lNil, lCons, vTup, vLst, vEmp, vIf, vCall, vNot, vAnd, vOr, bOf, bAnd, bOr, bNot, bCmp, truth, sNil, sSeq, sSet, sEx, sRet, sIf, sPut, sSub, sPar, vFn, pick, Pat.put, Pat.puts, SRes.then, gAdd, Z.gSub, gMul_sm, gMod, gDiv, gPow, gNeg, gCmpI, gIx, gLen, gAbs, gInt, gMax2, gMin2, L2.atI, L2.ixN, seqOf, Z.listOf, runS, Res.bind, Res.bindL, Res.bindB, ResL.bind, ResL.bindL, ResB.bind, ResB.bindB, Res.s, ResB.s, List.replicate, hp, hg, hl, e1, show u ≠ 0 by omega, show 0 < u by omega]
  · have e1 : ∀ (i j : Int), 0 < j → i.fdiv j = i / j := fun i j h => Int.fdiv_eq_ediv_of_nonneg i (by omega)
    have b1 : Sm s := sm_of (by omega) (by unfold PM at h3; omega)
    have b2 : Sm 1181783497276652981 := sm_of (by decide) (by decide)
    let s1 := (s * 1181783497276652981 + 12345678910987) % 2305843009213693951
    have c1 : 0 ≤ s1 := Int.emod_nonneg _ (by decide)
    have c2 : s1 < 2305843009213693951 := Int.emod_lt_of_pos _ (by decide)
    have b3 : Sm (s1 / 65537) := sm_of (by omega) (by omega)
    have b4 : Sm (s1 % 65537 + 3) := sm_of (by omega) (by omega)
    have l1 : Nat.log2 65537 < 9000 := by decide
    have l2 : Nat.log2 97 < 9000 := by decide
    refine ⟨s1 / 65537 * (s1 % 65537 + 3) % 2305843009213693921 / 97 % u, g, s1, Int.emod_nonneg _ (by omega), Int.emod_lt_of_pos _ (by omega), ⟨h1, c1, c2⟩, ?_⟩
    simp [fn__law_take, b__law_take, vV, vC, vBin, vUn, lNil, lCons, vTup, vLst, vEmp, vIf, vCall, vNot, vAnd, vOr, bOf, bAnd, bOr, bNot, bCmp, truth, sNil, sSeq, sSet, sEx, sRet, sIf, sPut, sSub, sPar, vFn, pick, Pat.put, Pat.puts, SRes.then, gAdd, Z.gSub, gMul_sm, gMod, gDiv, gPow, gNeg, gCmpI, gIx, gLen, gAbs, gInt, gMax2, gMin2, L2.atI, L2.ixN, seqOf, Z.listOf, runS, Res.bind, Res.bindL, Res.bindB, ResL.bind, ResL.bindL, ResB.bind, ResB.bindB, Res.s, ResB.s, List.replicate, hp, hg, hl, e1, b1, b2, b3, b4, l1, l2, hset, s1, show u ≠ 0 by omega, show 0 < u by omega]
theorem big_text : PySem.intText? ((Str.ofString "1" : Str) ++ strRep (Str.ofString "0") 300) = some (10 ^ 300) := by decide +kernel
theorem big_len : ((Str.ofString "1" : Str) ++ strRep (Str.ofString "0") 300).length = 301 := by decide +kernel
end P
namespace P
open PySem PySem.Spec PyProof.Rows L2 Z
/-- the pot alone may change, cells may come -/
def Fr (p : Nat) (S S' : Sto) : Prop := ∃ g s T, Pot g s ∧ S' = S.set p (pc g s) ++ T
theorem Fr.len {p : Nat} {S S' : Sto} (h : Fr p S S') : S.length ≤ S'.length := by
  obtain ⟨g, s, T, _, rfl⟩ := h
  simp
theorem Fr.pot {p : Nat} {S S' : Sto} (h : Fr p S S') (lt : p < S.length) : ∃ g s, Pot g s ∧ S'[p]? = some (pc g s) := by
  obtain ⟨g, s, T, h, rfl⟩ := h
  exact ⟨g, s, h, by rw [List.getElem?_append_left (by simpa using lt), List.getElem?_set_self lt]⟩
theorem Fr.at {p : Nat} {S S' : Sto} (h : Fr p S S') {n : Nat} (lt : n < S.length) (ne : n ≠ p) : S'[n]? = S[n]? := by
  obtain ⟨g, s, T, h, rfl⟩ := h
  rw [List.getElem?_append_left (by simpa using lt), List.getElem?_set_ne (Ne.symm ne)]
theorem Fr.trans {p : Nat} {S S1 S2 : Sto} (h : Fr p S S1) (lt : p < S.length) (h2 : Fr p S1 S2) : Fr p S S2 := by
  obtain ⟨g, s, T, h, rfl⟩ := h
  obtain ⟨g2, s2, T2, h2, rfl⟩ := h2
  refine ⟨g2, s2, T ++ T2, h2, ?_⟩
  rw [List.set_append_left _ _ (by simpa using lt), List.set_set, List.append_assoc]
theorem Fr.grow {p : Nat} {S S1 : Sto} (h : Fr p S S1) (T2 : Sto) : Fr p S (S1 ++ T2) := by
  obtain ⟨g, s, T, h, rfl⟩ := h
  exact ⟨g, s, T ++ T2, h, by rw [List.append_assoc]⟩
theorem Fr.self {p : Nat} {S : Sto} {g s : Int} (hp : S[p]? = some (pc g s)) (P0 : Pot g s) : Fr p S S := by
  obtain ⟨h, e⟩ := List.getElem?_eq_some_iff.mp hp
  refine ⟨g, s, [], P0, ?_⟩
  rw [← e, List.set_getElem_self, List.append_nil]
theorem Fr.new {p : Nat} {S : Sto} {g s : Int} (hp : S[p]? = some (pc g s)) (P0 : Pot g s) (T : Sto) : Fr p S (S ++ T) := (Fr.self hp P0).grow T
theorem lt_of {S : Sto} {p : Nat} {c : Cell} (hp : S[p]? = some c) : p < S.length := (List.getElem?_eq_some_iff.mp hp).1
/-- take, as a step -/
theorem take_fr {S : Sto} {p : Nat} {g s u : Int} (hp : S[p]? = some (pc g s)) (P0 : Pot g s) (hu : 1 ≤ u) (hu2 : u < 2 ^ 64) :
    ∃ r S', 0 ≤ r ∧ r < u ∧ Fr p S S' ∧ S'.length = S.length ∧ fn__law_take [.ref p, .int u] S = .ok (.int r) S' := by
  obtain ⟨r, g', s', h1, h2, h3, h4⟩ := take_ok hp P0 hu hu2
  exact ⟨r, _, h1, h2, ⟨g', s', [], h3, (List.append_nil _).symm⟩, by simp, h4⟩
theorem sm_mod (c : Int) : Sm (c % 10 ^ 300) := by
  have h1 : 0 ≤ c % 10 ^ 300 := Int.emod_nonneg _ (by decide +kernel)
  have h2 : c % 10 ^ 300 < 10 ^ 300 := Int.emod_lt_of_pos _ (by decide +kernel)
  have h3 : (10 : Int) ^ 300 = ((10 ^ 300 : Nat) : Int) := by decide +kernel
  have h4 : (10 : Nat) ^ 300 < 2 ^ 1000 := by decide +kernel
  unfold Sm
  omega
theorem gInt_str {a : Str} {n : Int} {S : Sto} (h : PySem.intText? a = some n) (hl : a.length ≤ 640) : gInt [.str a] S = .ok (.int n) S := by
  simp [gInt, h, hl]
theorem call_int {f : FE} {E : Ev} {S : Sto} {a : Str} {n : Int} (h : f E S = .ok (.str a) S) (h2 : gInt [.str a] S = .ok (.int n) S) : vCall gInt (lCons f lNil) E S = .ok (.int n) S := by
  simp [vCall, lCons, lNil, h, h2]
theorem bin_cc {g1 g2 : D → D → Sto → Res} {a b c : D} {E : Ev} {S : Sto} {r : Res} (h : (g2 b c S).bind (fun y S2 => g1 a y S2) = r) : vBin g1 (vC a) (vBin g2 (vC b) (vC c)) E S = r := by
  simpa [vBin, vC] using h
def cellOf (ns : List Int) (k : Int) : Int := if k < (ns.length : Int) then ns.getD k.toNat 0 else 5 * k + ns.length
noncomputable def potB (f : FE) : FS := sSeq (sSet 2 (vBin gAdd (vBin gMul (vC (.int 5)) (vV 1)) (vCall gLen (lCons (vV 0) (lNil))))) (sSeq (sIf (bCmp gLt (vV 1) (vCall gLen (lCons (vV 0) (lNil)))) (sSeq (sSet 2 (vBin gIx (vV 0) (vV 1))) (sNil)) (sNil)) (sSeq (sSet 3 (vBin gMul (vBin gMod (vCall gAbs (lCons (vV 2) (lNil))) f) (vCall gInt (lCons (vBin gGe (vCall gAbs (lCons (vV 2) (lNil))) (vBin gPow (vC (.int 10)) (vC (.int 18)))) (lNil))))) (sSeq (sRet (vLst (lCons (vV 3) (lCons (vBin gMod (vBin gMul (vBin gAdd (vBin gAdd (vBin gMod (vV 2) (vC (.int 2305843009213693951))) (vBin gMul (vBin gMul (vC (.int 6959)) (vV 1)) (vV 1))) (vC (.int 13))) (vC (.int 48271))) (vC (.int 2305843009213693951))) (lNil))))) (sNil))))
noncomputable def potF : FE := vCall gInt (lCons (vBin gAdd (vC (.str (Str.ofString "1"))) (vBin gMul (vC (.str (Str.ofString "0"))) (vC (.int 300)))) lNil)
theorem pot_is : fn__law_pot = runS 4 (potB potF) := rfl
theorem potF_ok (E : Ev) (S : Sto) : potF E S = .ok (.int (10 ^ 300)) S := by
  have big : Res.bind (gMul (.str (Str.ofString "0")) (.int 300) (S : Sto)) (fun y S2 => gAdd (.str (Str.ofString "1")) y S2) = .ok (.str ((Str.ofString "1" : Str) ++ strRep (Str.ofString "0") 300)) S := by
    have l1 : (Str.ofString "0").length = 1 := by decide +kernel
    have l2 : (Str.ofString "1").length = 1 := by decide +kernel
    have l3 : (strRep (Str.ofString "0") 300).length = 300 := by decide +kernel
    simp [gMul, gAdd, Res.bind, l1, l2, l3, sizeLine]
  exact call_int (bin_cc big) (gInt_str big_text (by rw [big_len]; decide))
theorem pot_gen {f : FE} {S : Sto} {ns : List Int} {k T : Int} (hf : ∀ E, f E S = .ok (.int T) S) (hT : 0 < T) (sT : ∀ c : Int, Sm (c % T)) (h0 : 0 ≤ k) (h1 : k < 4) :
    ∃ g s, Pot g s ∧ runS 4 (potB f) [.fl (ns.map .int), .int k] S = .ok (.ref S.length) (S ++ [pc g s]) := by
  obtain ⟨c, hc⟩ : ∃ c, c = cellOf ns k := ⟨_, rfl⟩
  obtain ⟨a, ha⟩ : ∃ a, a = (if c < 0 then -c else c) := ⟨_, rfl⟩
  have c1 : 0 ≤ c % 2305843009213693951 := Int.emod_nonneg _ (by decide)
  have c2 : c % 2305843009213693951 < 2305843009213693951 := Int.emod_lt_of_pos _ (by decide)
  have hk : k = 0 ∨ k = 1 ∨ k = 2 ∨ k = 3 := by omega
  have b1 : Sm 5 := sm_of (by decide) (by decide)
  have b2 : Sm k := sm_of (by omega) (by omega)
  have b3 : Sm 6959 := sm_of (by decide) (by decide)
  have b4 : Sm (6959 * k) := sm_of (by omega) (by omega)
  have b5 : Sm (c % 2305843009213693951 + 6959 * k * k + 13) := by
    rcases hk with rfl | rfl | rfl | rfl <;> exact sm_of (by omega) (by omega)
  have b6 : Sm 48271 := sm_of (by decide) (by decide)
  have b8 : Sm 1 := sm_of (by decide) (by decide)
  have b9 : Sm 0 := sm_of (by decide) (by decide)
  have nn : 0 ≤ a % T := Int.emod_nonneg _ (by omega)
  have pw : gPow (.int 10) (.int 18) S = .ok (.int (10 ^ 18)) S := rfl
  have e2 : sSeq (sSet 2 (vBin gAdd (vBin gMul (vC (.int 5)) (vV 1)) (vCall gLen (lCons (vV 0) (lNil))))) (sIf (bCmp gLt (vV 1) (vCall gLen (lCons (vV 0) (lNil)))) (sSeq (sSet 2 (vBin gIx (vV 0) (vV 1))) (sNil)) (sNil)) [some (.fl (ns.map .int)), some (.int k), none, none] S = .nx [some (.fl (ns.map .int)), some (.int k), some (.int c), none] S := by
    by_cases hl : k < (ns.length : Int)
    · have hk2 : k.toNat < ns.length := by omega
      have hc : c = ns[k.toNat] := by
        rw [hc]
        unfold cellOf
        rw [if_pos hl, List.getD_eq_getElem?_getD, List.getElem?_eq_getElem hk2]
        rfl
      have hat : L2.atI (ns.map D.int) k = some (.int c) := by
        unfold L2.atI L2.ixN
        rw [if_pos h0, if_pos (by simpa using hl)]
        simp [hk2, hc]
      simp [vV, vC, vBin, vUn, lNil, lCons, vTup, vLst, vEmp, vIf, vCall, vNot, vAnd, vOr, bOf, bAnd, bOr, bNot, bCmp, truth, sNil, sSeq, sSet, sEx, sRet, sIf, sPut, sSub, sPar, vFn, pick, Pat.put, Pat.puts, SRes.then, gAdd, Z.gSub, gMul_sm, gMod, gDiv, gPow, gNeg, gCmpI, gIx, gLen, gAbs, gInt, gMax2, gMin2, seqOf, Z.listOf, runS, Res.bind, Res.bindL, Res.bindB, ResL.bind, ResL.bindL, ResB.bind, ResB.bindB, Res.s, ResB.s, List.replicate, hl, hat, b1, b2]
    · have hc : c = 5 * k + ns.length := by
        rw [hc]
        unfold cellOf
        rw [if_neg hl]
      simp [vV, vC, vBin, vUn, lNil, lCons, vTup, vLst, vEmp, vIf, vCall, vNot, vAnd, vOr, bOf, bAnd, bOr, bNot, bCmp, truth, sNil, sSeq, sSet, sEx, sRet, sIf, sPut, sSub, sPar, vFn, pick, Pat.put, Pat.puts, SRes.then, gAdd, Z.gSub, gMul_sm, gMod, gDiv, gPow, gNeg, gCmpI, gIx, gLen, gAbs, gInt, gMax2, gMin2, seqOf, Z.listOf, runS, Res.bind, Res.bindL, Res.bindB, ResL.bind, ResL.bindL, ResB.bind, ResB.bindB, Res.s, ResB.s, List.replicate, hl, hc, b1, b2]
  have run3 : ∀ (A B C : FS) E E1 S S1, sSeq A B E S = .nx E1 S1 → sSeq A (sSeq B C) E S = C E1 S1 := fun A B C E E1 S S1 h => by
    unfold sSeq at h ⊢
    cases e : A E S with
    | nx E2 S2 => rw [e] at h; simp only [SRes.then] at h ⊢; rw [h]
    | _ => rw [e] at h; cases h
  show ∃ g s, Pot g s ∧ (match potB f [some (.fl (ns.map .int)), some (.int k), none, none] S with
    | .nx _ S1 => Res.ok .non S1
    | .ret d S1 => .ok d S1
    | .exc c fs _ S1 => .exc c fs S1
    | _ => .bad) = _
  unfold potB
  rw [run3 _ _ _ _ _ _ _ e2]
  have b10 : ∀ (p : Prop) [Decidable p], Sm (if p then 1 else 0) := fun p _ => by split <;> assumption
  by_cases hb : (10 : Int) ^ 18 ≤ a
  · refine ⟨a % T * 1, (c % 2305843009213693951 + 6959 * k * k + 13) * 48271 % 2305843009213693951, ⟨by omega, Int.emod_nonneg _ (by decide), Int.emod_lt_of_pos _ (by decide)⟩, ?_⟩
    simp [vV, vC, vBin, vUn, lNil, lCons, vTup, vLst, vEmp, vIf, vCall, vNot, vAnd, vOr, bOf, bAnd, bOr, bNot, bCmp, truth, sNil, sSeq, sSet, sEx, sRet, sIf, sPut, sSub, sPar, vFn, pick, Pat.put, Pat.puts, SRes.then, gAdd, Z.gSub, gMul_sm, gMod, gDiv, gPow, gNeg, gCmpI, gIx, gLen, gAbs, gInt, gMax2, gMin2, seqOf, Z.listOf, runS, Res.bind, Res.bindL, Res.bindB, ResL.bind, ResL.bindL, ResB.bind, ResB.bindB, Res.s, ResB.s, List.replicate, hf, hT, sT, b1, b2, b3, b4, b5, b6, b8, b9, b10, ← ha, hb]
    rw [if_pos (by omega)]
    omega
  · refine ⟨a % T * 0, (c % 2305843009213693951 + 6959 * k * k + 13) * 48271 % 2305843009213693951, ⟨by omega, Int.emod_nonneg _ (by decide), Int.emod_lt_of_pos _ (by decide)⟩, ?_⟩
    simp [vV, vC, vBin, vUn, lNil, lCons, vTup, vLst, vEmp, vIf, vCall, vNot, vAnd, vOr, bOf, bAnd, bOr, bNot, bCmp, truth, sNil, sSeq, sSet, sEx, sRet, sIf, sPut, sSub, sPar, vFn, pick, Pat.put, Pat.puts, SRes.then, gAdd, Z.gSub, gMul_sm, gMod, gDiv, gPow, gNeg, gCmpI, gIx, gLen, gAbs, gInt, gMax2, gMin2, seqOf, Z.listOf, runS, Res.bind, Res.bindL, Res.bindB, ResL.bind, ResL.bindL, ResB.bind, ResB.bindB, Res.s, ResB.s, List.replicate, hf, hT, sT, b1, b2, b3, b4, b5, b6, b8, b9, b10, ← ha, hb]
    rw [if_neg (by omega)]
    omega
theorem pot_ok (S : Sto) (ns : List Int) (k : Int) (h0 : 0 ≤ k) (h1 : k < 4) : ∃ g s, Pot g s ∧ fn__law_pot [.fl (ns.map .int), .int k] S = .ok (.ref S.length) (S ++ [pc g s]) := by
  rw [pot_is]
  exact pot_gen (fun E => potF_ok E S) (by decide +kernel) sm_mod h0 h1
end P
namespace P
open PySem PySem.Spec PyProof.Rows L2 Z
def gg (t l : Int) : Int := (Nat.gcd t.natAbs l.natAbs : Nat)
def nn (t l : Int) : Int := if l < 0 then -(t / gg t l) else t / gg t l
def dd (t l : Int) : Int := if l < 0 then -(l / gg t l) else l / gg t l
theorem gg_pos {t l : Int} (h : l ≠ 0) : 0 < gg t l := by
  have : 0 < Nat.gcd t.natAbs l.natAbs := Nat.gcd_pos_of_pos_right _ (Int.natAbs_pos.mpr h)
  unfold gg
  omega
theorem gg_t (t l : Int) : gg t l * (t / gg t l) = t := Int.mul_ediv_cancel' (Int.gcd_dvd_left (a := t) (b := l))
theorem gg_l (t l : Int) : gg t l * (l / gg t l) = l := Int.mul_ediv_cancel' (Int.gcd_dvd_right (a := t) (b := l))
theorem gg_le {t l : Int} (h : l ≠ 0) : gg t l ≤ l.natAbs := by
  have : Nat.gcd t.natAbs l.natAbs ≤ l.natAbs := Nat.gcd_le_right _ (Int.natAbs_pos.mpr h)
  unfold gg
  omega
theorem fdiv_of {g a x : Int} (h : g ≠ 0) (e : x = g * a) : x.fdiv g = a := by
  rw [e, Int.mul_fdiv_cancel_left _ h]
theorem log_gg {t l : Int} (h : l ≠ 0) (hl : l.natAbs < 2 ^ 200) : (gg t l).natAbs.log2 < 9000 := by
  have h1 := gg_le (t := t) h
  have h2 := gg_pos (t := t) h
  exact Nat.lt_of_le_of_lt (log_le (k := 199) (by omega)) (by decide)
theorem eq_ii {i j : Int} {S : Sto} : gEq (.int i) (.int j) S = .ok (.bl (i == j)) S := by
  simp [gEq, gEqD, toPD, SeqAt.shaped, PyData.canLay0, PyData.depth, PyData.eqv]
theorem ne_ii {i j : Int} {S : Sto} : gNe (.int i) (.int j) S = .ok (.bl (!(i == j))) S := by
  simp [gNe, gNeD, toPD, SeqAt.shaped, PyData.canLay0, PyData.depth, PyData.eqv]
theorem eq_tt {a b c d : Int} {S : Sto} : gEq (.tup [.int a, .int b]) (.tup [.int c, .int d]) S = .ok (.bl (a == c && b == d)) S := by
  simp [gEq, gEqD, toPD, optAll, SeqAt.shaped, PyData.canLay0, PyData.canLayAll0, PyData.depth, PyData.depthAll, PyData.eqv, PyData.eqvAll]
theorem ne_tt {a b c d : Int} {S : Sto} : gNe (.tup [.int a, .int b]) (.tup [.int c, .int d]) S = .ok (.bl (!(a == c && b == d))) S := by
  simp [gNe, gNeD, toPD, optAll, SeqAt.shaped, PyData.canLay0, PyData.canLayAll0, PyData.depth, PyData.depthAll, PyData.eqv, PyData.eqvAll]
theorem part_ok {t l : Int} (S : Sto) (h : l ≠ 0) (hl : l.natAbs < 2 ^ 200) : fn_part [.int t, .int l] S = .ok (.tup [.int (nn t l), .int (dd t l)]) S := by
  have h2 := gg_pos (t := t) h
  have h3 := log_gg (t := t) h hl
  have h4 : (-(gg t l)).natAbs.log2 < 9000 := by rw [Int.natAbs_neg]; exact h3
  have e0 : ((Nat.gcd t.natAbs l.natAbs : Nat) : Int) = gg t l := rfl
  by_cases hn : l < 0
  · have e1 : t.fdiv (-(gg t l)) = nn t l := fdiv_of (by omega) (by unfold nn; rw [if_pos hn, Int.neg_mul_neg, gg_t])
    have e2 : l.fdiv (-(gg t l)) = dd t l := fdiv_of (by omega) (by unfold dd; rw [if_pos hn, Int.neg_mul_neg, gg_l])
    simp [fn_part, b_part, vV, vC, vBin, vUn, lNil, lCons, vTup, vLst, vEmp, vIf, vCall, vNot, vAnd, vOr, bOf, bAnd, bOr, bNot, bCmp, truth, sNil, sSeq, sSet, sEx, sRet, sIf, sPut, sSub, sPar, vFn, pick, Pat.put, Pat.puts, SRes.then, gAdd, Z.gSub, gMul_sm, gMod, gDiv, gPow, gNeg, gCmpI, gIx, gLen, gAbs, gInt, gMax2, gMin2, L2.atI, L2.ixN, seqOf, Z.listOf, runS, Res.bind, Res.bindL, Res.bindB, ResL.bind, ResL.bindL, ResB.bind, ResB.bindB, Res.s, ResB.s, List.replicate, eq_ii, gGcd, e0, h, hn, h3, h4, e1, e2, show gg t l ≠ 0 by omega]
  · have e1 : t.fdiv (gg t l) = nn t l := fdiv_of (by omega) (by unfold nn; rw [if_neg hn, gg_t])
    have e2 : l.fdiv (gg t l) = dd t l := fdiv_of (by omega) (by unfold dd; rw [if_neg hn, gg_l])
    simp [fn_part, b_part, vV, vC, vBin, vUn, lNil, lCons, vTup, vLst, vEmp, vIf, vCall, vNot, vAnd, vOr, bOf, bAnd, bOr, bNot, bCmp, truth, sNil, sSeq, sSet, sEx, sRet, sIf, sPut, sSub, sPar, vFn, pick, Pat.put, Pat.puts, SRes.then, gAdd, Z.gSub, gMul_sm, gMod, gDiv, gPow, gNeg, gCmpI, gIx, gLen, gAbs, gInt, gMax2, gMin2, L2.atI, L2.ixN, seqOf, Z.listOf, runS, Res.bind, Res.bindL, Res.bindB, ResL.bind, ResL.bindL, ResB.bind, ResB.bindB, Res.s, ResB.s, List.replicate, eq_ii, gGcd, e0, h, hn, h3, h4, e1, e2, show gg t l ≠ 0 by omega]
theorem wh_ok (T L : D) (S : Sto) : ∀ (b a : Nat), ∃ n, whileS (bCmp gGt (vV 3) (vC (.int 0))) (sSeq (sPar 2 3 (lCons (vV 3) (lCons (vBin gMod (vV 2) (vV 3)) (lNil)))) (sNil)) n [some T, some L, some (.int a), some (.int b), none] S
    = .nx [some T, some L, some (.int (Nat.gcd a b : Nat)), some (.int 0), none] S := by
  intro b
  induction b using Nat.strongRecOn with
  | _ b ih =>
    intro a
    by_cases hb : b = 0
    · refine ⟨1, ?_⟩
      subst hb
      simp [whileS, vV, vC, vBin, vUn, lNil, lCons, vTup, vLst, vEmp, vIf, vCall, vNot, vAnd, vOr, bOf, bAnd, bOr, bNot, bCmp, truth, sNil, sSeq, sSet, sEx, sRet, sIf, sPut, sSub, sPar, vFn, pick, Pat.put, Pat.puts, SRes.then, gAdd, Z.gSub, gMul_sm, gMod, gDiv, gPow, gNeg, gCmpI, gIx, gLen, gAbs, gInt, gMax2, gMin2, L2.atI, L2.ixN, seqOf, Z.listOf, runS, Res.bind, Res.bindL, Res.bindB, ResL.bind, ResL.bindL, ResB.bind, ResB.bindB, Res.s, ResB.s, List.replicate]
    · have hlt : a % b < b := Nat.mod_lt _ (by omega)
      obtain ⟨n, hn⟩ := ih (a % b) hlt b
      refine ⟨n + 1, ?_⟩
      have e : Nat.gcd b (a % b) = Nat.gcd a b := by rw [Nat.gcd_comm b, ← Nat.gcd_rec, Nat.gcd_comm]
      rw [e] at hn
      rw [← hn]
      simp [whileS, vV, vC, vBin, vUn, lNil, lCons, vTup, vLst, vEmp, vIf, vCall, vNot, vAnd, vOr, bOf, bAnd, bOr, bNot, bCmp, truth, sNil, sSeq, sSet, sEx, sRet, sIf, sPut, sSub, sPar, vFn, pick, Pat.put, Pat.puts, SRes.then, gAdd, Z.gSub, gMul_sm, gMod, gDiv, gPow, gNeg, gCmpI, gIx, gLen, gAbs, gInt, gMax2, gMin2, L2.atI, L2.ixN, seqOf, Z.listOf, runS, Res.bind, Res.bindL, Res.bindB, ResL.bind, ResL.bindL, ResB.bind, ResB.bindB, Res.s, ResB.s, List.replicate, show 0 < b by omega]
theorem reduced_ok {t l : Int} (S : Sto) (h : l ≠ 0) (ht : t.natAbs < 2 ^ 200) (hl : l.natAbs < 2 ^ 200) : fn__law_reduced [.int t, .int l] S = .ok (.tup [.int (nn t l), .int (dd t l)]) S := by
  have h2 := gg_pos (t := t) h
  have h3 := log_gg (t := t) h hl
  obtain ⟨n, hn⟩ := wh_ok (.int t) (.int l) S l.natAbs t.natAbs
  have e0 : ((Nat.gcd t.natAbs l.natAbs : Nat) : Int) = gg t l := rfl
  have hw : sWhile (bCmp gGt (vV 3) (vC (.int 0))) (sSeq (sPar 2 3 (lCons (vV 3) (lCons (vBin gMod (vV 2) (vV 3)) (lNil)))) (sNil)) [some (.int t), some (.int l), some (.int t.natAbs), some (.int l.natAbs), none] S = .nx [some (.int t), some (.int l), some (.int (gg t l)), some (.int 0), none] S := by
    rw [sWhile_eq (n := n) (by rw [hn]; exact fun q => by cases q), hn]
    rfl
  have a1 : ∀ x : Int, (if x < 0 then -x else x) = (x.natAbs : Int) := fun x => by split <;> omega
  have s1 : Sm 1 := sm_of (by decide) (by decide)
  have s2 : Sm (-1) := sm_of (by decide) (by decide)
  have s3 : Sm t := sm_of (by omega) (by omega)
  have s4 : Sm l := sm_of (by omega) (by omega)
  by_cases hn : l < 0
  · have e1 : (-t).fdiv (gg t l) = nn t l := fdiv_of (by omega) (by unfold nn; rw [if_pos hn, Int.mul_neg, gg_t])
    have e2 : (-l).fdiv (gg t l) = dd t l := fdiv_of (by omega) (by unfold dd; rw [if_pos hn, Int.mul_neg, gg_l])
    simp [fn__law_reduced, b__law_reduced, vV, vC, vBin, vUn, lNil, lCons, vTup, vLst, vEmp, vIf, vCall, vNot, vAnd, vOr, bOf, bAnd, bOr, bNot, bCmp, truth, sNil, sSeq, sSet, sEx, sRet, sIf, sPut, sSub, sPar, vFn, pick, Pat.put, Pat.puts, SRes.then, gAdd, Z.gSub, gMul_sm, gMod, gDiv, gPow, gNeg, gCmpI, gIx, gLen, gAbs, gInt, gMax2, gMin2, L2.atI, L2.ixN, seqOf, Z.listOf, runS, Res.bind, Res.bindL, Res.bindB, ResL.bind, ResL.bindL, ResB.bind, ResB.bindB, Res.s, ResB.s, List.replicate, a1, hw, h3, s1, s2, s3, s4, show ¬ 0 < l by omega, e1, e2, show gg t l ≠ 0 by omega]
  · have e1 : t.fdiv (gg t l) = nn t l := fdiv_of (by omega) (by unfold nn; rw [if_neg hn, gg_t])
    have e2 : l.fdiv (gg t l) = dd t l := fdiv_of (by omega) (by unfold dd; rw [if_neg hn, gg_l])
    simp [fn__law_reduced, b__law_reduced, vV, vC, vBin, vUn, lNil, lCons, vTup, vLst, vEmp, vIf, vCall, vNot, vAnd, vOr, bOf, bAnd, bOr, bNot, bCmp, truth, sNil, sSeq, sSet, sEx, sRet, sIf, sPut, sSub, sPar, vFn, pick, Pat.put, Pat.puts, SRes.then, gAdd, Z.gSub, gMul_sm, gMod, gDiv, gPow, gNeg, gCmpI, gIx, gLen, gAbs, gInt, gMax2, gMin2, L2.atI, L2.ixN, seqOf, Z.listOf, runS, Res.bind, Res.bindL, Res.bindB, ResL.bind, ResL.bindL, ResB.bind, ResB.bindB, Res.s, ResB.s, List.replicate, a1, hw, h3, s1, s2, s3, s4, show 0 < l by omega, e1, e2, show gg t l ≠ 0 by omega]
end P
namespace P
open PySem PySem.Spec PyProof.Rows L2 Z
theorem get_new (S : Sto) (c : Cell) : (S ++ [c])[S.length]? = some c := by simp
theorem vec8 {a b : Int} {r : Int} (h0 : 0 ≤ r) (h1 : r < 8) (ha : 0 ≤ a) (ha2 : a < 10 ^ 12) (hb : 0 ≤ b) (hb2 : b < 10 ^ 12) :
    ∃ t : Int, 0 ≤ t ∧ t < 10 ^ 12 ∧ L2.atI [D.int 0, .int 1, .int 2, .int 6, .int 12, .int 60, .int a, .int b] r = some (.int t) := by
  have h : r = 0 ∨ r = 1 ∨ r = 2 ∨ r = 3 ∨ r = 4 ∨ r = 5 ∨ r = 6 ∨ r = 7 := by omega
  rcases h with rfl | rfl | rfl | rfl | rfl | rfl | rfl | rfl
  · exact ⟨0, by decide, by decide, rfl⟩
  · exact ⟨1, by decide, by decide, rfl⟩
  · exact ⟨2, by decide, by decide, rfl⟩
  · exact ⟨6, by decide, by decide, rfl⟩
  · exact ⟨12, by decide, by decide, rfl⟩
  · exact ⟨60, by decide, by decide, rfl⟩
  · exact ⟨a, ha, ha2, rfl⟩
  · exact ⟨b, hb, hb2, rfl⟩
theorem whole_ok {S : Sto} {p : Nat} {g s : Int} (hp : S[p]? = some (pc g s)) (P0 : Pot g s) :
    ∃ t S', t.natAbs < 10 ^ 12 ∧ Fr p S S' ∧ fn__law_whole [.ref p] S = .ok (.int t) S' := by
  have lt := lt_of hp
  obtain ⟨a, S1, ha, ha2, F1, L1, e1⟩ := take_fr hp P0 (u := 100) (by decide) (by decide)
  obtain ⟨g1, s1, P1, hp1⟩ := F1.pot lt
  obtain ⟨b, S2, hb, hb2, F2, L2', e2⟩ := take_fr hp1 P1 (u := 1000000000000) (by decide) (by decide)
  have F12 := F1.trans lt F2
  let c : Cell := .lst [.int 0, .int 1, .int 2, .int 6, .int 12, .int 60, .int a, .int b]
  have F3 : Fr p S (S2 ++ [c]) := F12.grow [c]
  obtain ⟨g3, s3, P3, hp3⟩ := F3.pot lt
  obtain ⟨r, S4, hr, hr2, F4, L4, e4⟩ := take_fr hp3 P3 (u := 8) (by decide) (by decide)
  have F5 := F3.trans lt F4
  have lt2 : p < S2.length := by rw [L2', L1]; exact lt
  have hc : S4[S2.length]? = some c := by
    rw [F4.at (by simp) (by omega)]
    exact get_new S2 c
  obtain ⟨t, ht, ht2, hat⟩ := vec8 hr hr2 ha (by omega) hb hb2
  obtain ⟨g5, s5, P5, hp5⟩ := F5.pot lt
  obtain ⟨z, S6, hz, hz2, F6, L6, e6⟩ := take_fr hp5 P5 (u := 3) (by decide) (by decide)
  have F7 := F5.trans lt F6
  have of_ok : fn__law_of [.ref p, .ref S2.length] (S2 ++ [c]) = .ok (.int t) S4 := by
    simp [fn__law_of, b__law_of, vV, vC, vBin, vUn, lNil, lCons, vTup, vLst, vEmp, vIf, vCall, vNot, vAnd, vOr, bOf, bAnd, bOr, bNot, bCmp, truth, sNil, sSeq, sSet, sEx, sRet, sIf, sPut, sSub, sPar, vFn, pick, Pat.put, Pat.puts, SRes.then, gAdd, Z.gSub, gMul_sm, gMod, gDiv, gPow, gNeg, gCmpI, gIx, gLen, gAbs, gInt, gMax2, gMin2, seqOf, Z.listOf, runS, Res.bind, Res.bindL, Res.bindB, ResL.bind, ResL.bindL, ResB.bind, ResB.bindB, Res.s, ResB.s, List.replicate, get_new, c, e4, hc, hat]
  have pw : gPow (.int 10) (.int 12) S1 = .ok (.int (10 ^ 12)) S1 := rfl
  by_cases h : 0 < z
  · refine ⟨t, S6, by omega, F7, ?_⟩
    simp [fn__law_whole, b__law_whole, vV, vC, vBin, vUn, lNil, lCons, vTup, vLst, vEmp, vIf, vCall, vNot, vAnd, vOr, bOf, bAnd, bOr, bNot, bCmp, truth, sNil, sSeq, sSet, sEx, sRet, sIf, sPut, sSub, sPar, vFn, pick, Pat.put, Pat.puts, SRes.then, gAdd, Z.gSub, gMul_sm, gMod, gDiv, gPow, gNeg, gCmpI, gIx, gLen, gAbs, gInt, gMax2, gMin2, seqOf, Z.listOf, runS, Res.bind, Res.bindL, Res.bindB, ResL.bind, ResL.bindL, ResB.bind, ResB.bindB, Res.s, ResB.s, List.replicate, e1, e2, of_ok, c, e6, h]
  · refine ⟨0 - t, S6, by omega, F7, ?_⟩
    simp [fn__law_whole, b__law_whole, vV, vC, vBin, vUn, lNil, lCons, vTup, vLst, vEmp, vIf, vCall, vNot, vAnd, vOr, bOf, bAnd, bOr, bNot, bCmp, truth, sNil, sSeq, sSet, sEx, sRet, sIf, sPut, sSub, sPar, vFn, pick, Pat.put, Pat.puts, SRes.then, gAdd, Z.gSub, gMul_sm, gMod, gDiv, gPow, gNeg, gCmpI, gIx, gLen, gAbs, gInt, gMax2, gMin2, seqOf, Z.listOf, runS, Res.bind, Res.bindL, Res.bindB, ResL.bind, ResL.bindL, ResB.bind, ResB.bindB, Res.s, ResB.s, List.replicate, e1, e2, of_ok, c, e6, h]
end P
namespace P
open PySem PySem.Spec PyProof.Rows L2 Z
theorem ii_int (i : Int) (S : Sto) : gIsi itab [.ty "int"] (.int i) S = .ok (.bl true) S := rfl
theorem ii_bl (i : Bool) (S : Sto) : gIsi itab [.ty "int"] (.bl i) S = .ok (.bl true) S := rfl
theorem ii_non (S : Sto) : gIsi itab [.ty "int"] .non S = .ok (.bl false) S := rfl
theorem ii_str (x : Str) (S : Sto) : gIsi itab [.ty "int"] (.str x) S = .ok (.bl false) S := rfl
theorem ii_tup (x : List D) (S : Sto) : gIsi itab [.ty "int"] (.tup x) S = .ok (.bl false) S := rfl
theorem ib_int (i : Int) (S : Sto) : gIsi itab [.ty "bool"] (.int i) S = .ok (.bl false) S := rfl
theorem ib_bl (i : Bool) (S : Sto) : gIsi itab [.ty "bool"] (.bl i) S = .ok (.bl true) S := rfl
theorem it_int (i : Int) (S : Sto) : gIsi itab [.ty "tuple"] (.int i) S = .ok (.bl false) S := rfl
theorem it_bl (i : Bool) (S : Sto) : gIsi itab [.ty "tuple"] (.bl i) S = .ok (.bl false) S := rfl
theorem it_non (S : Sto) : gIsi itab [.ty "tuple"] .non S = .ok (.bl false) S := rfl
theorem it_str (x : Str) (S : Sto) : gIsi itab [.ty "tuple"] (.str x) S = .ok (.bl false) S := rfl
theorem it_emp (S : Sto) : gIsi itab [.ty "tuple"] .emp S = .ok (.bl false) S := rfl
theorem it_tup (x : List D) (S : Sto) : gIsi itab [.ty "tuple"] (.tup x) S = .ok (.bl true) S := rfl
theorem it_ref {n : Nat} {xs : List D} {S : Sto} (h : S[n]? = some (.lst xs)) : gIsi itab [.ty "tuple"] (.ref n) S = .ok (.bl false) S := by
  simp [gIsi, tyC, h]
  rfl
/-- a whole number, and no truth value -/
def wh : D → Option Bool
  | .int _ => some true
  | .bl _ | .non | .str _ | .tup _ => some false
  | _ => none
theorem whole_is {d : D} {b : Bool} {S : Sto} (h : wh d = some b) : fn_is_whole [d] S = .ok (.bl b) S := by
  cases d <;> simp [wh] at h <;> subst h <;> simp [fn_is_whole, b_is_whole, vV, vC, vBin, vUn, lNil, lCons, vTup, vLst, vEmp, vIf, vCall, vNot, vAnd, vOr, bOf, bAnd, bOr, bNot, bCmp, truth, sNil, sSeq, sSet, sEx, sRet, sIf, sPut, sSub, sPar, vFn, pick, Pat.put, Pat.puts, SRes.then, gAdd, Z.gSub, gMul_sm, gMod, gDiv, gPow, gNeg, gCmpI, gIx, gLen, gAbs, gInt, gMax2, gMin2, L2.atI, L2.ixN, seqOf, Z.listOf, runS, Res.bind, Res.bindL, Res.bindB, ResL.bind, ResL.bindL, ResB.bind, ResB.bindB, Res.s, ResB.s, List.replicate, ii_int, ii_bl, ii_non, ii_str, ii_tup, ib_int, ib_bl]
def NoTup (d : D) (S : Sto) : Prop := gIsi itab [.ty "tuple"] d S = .ok (.bl false) S
theorem frac_no {d : D} {S : Sto} (h : NoTup d S) : fn_is_fraction [d] S = .ok (.bl false) S ∧ fn__law_is_one [d] S = .ok (.bl false) S := by
  unfold NoTup at h
  constructor
  · simp [fn_is_fraction, b_is_fraction, vV, vC, vBin, vUn, lNil, lCons, vTup, vLst, vEmp, vIf, vCall, vNot, vAnd, vOr, bOf, bAnd, bOr, bNot, bCmp, truth, sNil, sSeq, sSet, sEx, sRet, sIf, sPut, sSub, sPar, vFn, pick, Pat.put, Pat.puts, SRes.then, gAdd, Z.gSub, gMul_sm, gMod, gDiv, gPow, gNeg, gCmpI, gIx, gLen, gAbs, gInt, gMax2, gMin2, L2.atI, L2.ixN, seqOf, Z.listOf, runS, Res.bind, Res.bindL, Res.bindB, ResL.bind, ResL.bindL, ResB.bind, ResB.bindB, Res.s, ResB.s, List.replicate, h]
  · simp [fn__law_is_one, b__law_is_one, vV, vC, vBin, vUn, lNil, lCons, vTup, vLst, vEmp, vIf, vCall, vNot, vAnd, vOr, bOf, bAnd, bOr, bNot, bCmp, truth, sNil, sSeq, sSet, sEx, sRet, sIf, sPut, sSub, sPar, vFn, pick, Pat.put, Pat.puts, SRes.then, gAdd, Z.gSub, gMul_sm, gMod, gDiv, gPow, gNeg, gCmpI, gIx, gLen, gAbs, gInt, gMax2, gMin2, L2.atI, L2.ixN, seqOf, Z.listOf, runS, Res.bind, Res.bindL, Res.bindB, ResL.bind, ResL.bindL, ResB.bind, ResB.bindB, Res.s, ResB.s, List.replicate, h]
theorem frac_len {xs : List D} {S : Sto} (h : xs.length ≠ 2) : fn_is_fraction [.tup xs] S = .ok (.bl false) S ∧ fn__law_is_one [.tup xs] S = .ok (.bl false) S := by
  have h2 : ((xs.length : Int) == 2) = false := by
    rw [Bool.eq_false_iff]
    intro q
    have := beq_iff_eq.mp q
    omega
  constructor
  · simp [fn_is_fraction, b_is_fraction, vV, vC, vBin, vUn, lNil, lCons, vTup, vLst, vEmp, vIf, vCall, vNot, vAnd, vOr, bOf, bAnd, bOr, bNot, bCmp, truth, sNil, sSeq, sSet, sEx, sRet, sIf, sPut, sSub, sPar, vFn, pick, Pat.put, Pat.puts, SRes.then, gAdd, Z.gSub, gMul_sm, gMod, gDiv, gPow, gNeg, gCmpI, gIx, gLen, gAbs, gInt, gMax2, gMin2, L2.atI, L2.ixN, seqOf, Z.listOf, runS, Res.bind, Res.bindL, Res.bindB, ResL.bind, ResL.bindL, ResB.bind, ResB.bindB, Res.s, ResB.s, List.replicate, it_tup, ne_ii, h2]
  · simp [fn__law_is_one, b__law_is_one, vV, vC, vBin, vUn, lNil, lCons, vTup, vLst, vEmp, vIf, vCall, vNot, vAnd, vOr, bOf, bAnd, bOr, bNot, bCmp, truth, sNil, sSeq, sSet, sEx, sRet, sIf, sPut, sSub, sPar, vFn, pick, Pat.put, Pat.puts, SRes.then, gAdd, Z.gSub, gMul_sm, gMod, gDiv, gPow, gNeg, gCmpI, gIx, gLen, gAbs, gInt, gMax2, gMin2, L2.atI, L2.ixN, seqOf, Z.listOf, runS, Res.bind, Res.bindL, Res.bindB, ResL.bind, ResL.bindL, ResB.bind, ResB.bindB, Res.s, ResB.s, List.replicate, it_tup, ne_ii, h2]
theorem set_new (S : Sto) (c c2 : Cell) : (S ++ [c]).set S.length c2 = S ++ [c2] := by simp
noncomputable def el : FE := vAnd (vUn (gIsi itab [.ty "int"]) (vV 1)) (vNot (vUn (gIsi itab [.ty "bool"]) (vV 1)))
theorem el_ok {d : D} {b : Bool} {S : Sto} {e0 : Option D} (h : wh d = some b) : el [e0, some d] S = .ok (.bl b) S := by
  cases d <;> simp [wh] at h <;> subst h <;> simp [el, vV, vC, vBin, vUn, lNil, lCons, vTup, vLst, vEmp, vIf, vCall, vNot, vAnd, vOr, bOf, bAnd, bOr, bNot, bCmp, truth, sNil, sSeq, sSet, sEx, sRet, sIf, sPut, sSub, sPar, vFn, pick, Pat.put, Pat.puts, SRes.then, gAdd, Z.gSub, gMul_sm, gMod, gDiv, gPow, gNeg, gCmpI, gIx, gLen, gAbs, gInt, gMax2, gMin2, L2.atI, L2.ixN, seqOf, Z.listOf, runS, Res.bind, Res.bindL, Res.bindB, ResL.bind, ResL.bindL, ResB.bind, ResB.bindB, Res.s, ResB.s, List.replicate, ii_int, ii_bl, ii_non, ii_str, ii_tup, ib_int, ib_bl]
theorem lc_ok {x y : D} {a b : Bool} {S : Sto} (hx : wh x = some a) (hy : wh y = some b) :
    vCall gAll (lCons (vLc (iSeq (vV 0)) (.nm 1) [1] (bTrue) el) (lNil)) [some (.tup [x, y]), none] S = .ok (.bl (a && b)) (S ++ [.lst [.bl a, .bl b]]) := by
  have e1 := fun S e0 => el_ok (S := S) (e0 := e0) hx
  have e2 := fun S e0 => el_ok (S := S) (e0 := e0) hy
  simp [vV, vC, vBin, vUn, lNil, lCons, vTup, vLst, vEmp, vIf, vCall, vNot, vAnd, vOr, bOf, bAnd, bOr, bNot, bCmp, truth, sNil, sSeq, sSet, sEx, sRet, sIf, sPut, sSub, sPar, vFn, pick, Pat.put, Pat.puts, SRes.then, gAdd, Z.gSub, gMul_sm, gMod, gDiv, gPow, gNeg, gCmpI, gIx, gLen, gAbs, gInt, gMax2, gMin2, L2.atI, L2.ixN, seqOf, Z.listOf, runS, Res.bind, Res.bindL, Res.bindB, ResL.bind, ResL.bindL, ResB.bind, ResB.bindB, Res.s, ResB.s, List.replicate, vLc, iSeq, itSeq, ResI, wipeE, lcS, srcIf, srcOk, bTrue, get_new, set_new, e1, e2, gAll, blsOf]
theorem seq_ret {c : FB} {f : FE} {rest g : FS} {E : Ev} {S S1 S2 : Sto} {d : D} (h : c E S = .ok true S1) (h2 : f E S1 = .ok d S2) : sSeq (sIf c (sSeq (sRet f) sNil) g) rest E S = .ret d S2 := by
  simp [sSeq, sIf, sRet, h, h2, Res.s, ResB.s, SRes.then]
theorem seq_no {c : FB} {g rest : FS} {E : Ev} {S S1 : Sto} (h : c E S = .ok false S1) : sSeq (sIf c g sNil) rest E S = rest E S1 := by
  simp [sSeq, sIf, sNil, h, Res.s, ResB.s, SRes.then]
theorem seq_set {i : Nat} {f : FE} {rest : FS} {E : Ev} {S S1 : Sto} {d : D} (h : f E S = .ok d S1) : sSeq (sSet i f) rest E S = rest (E.set i (some d)) S1 := by
  simp [sSeq, sSet, h, Res.s, SRes.then]
theorem one_ret {f : FE} {E : Ev} {S S1 : Sto} {d : D} (h : f E S = .ok d S1) : sSeq (sRet f) sNil E S = .ret d S1 := by
  simp [sSeq, sRet, h, Res.s, SRes.then]
theorem run_ret {L : Nat} {b : FS} {ds : List D} {S S1 : Sto} {d : D} (h : b (ds.map some ++ List.replicate (L - ds.length) none) S = .ret d S1) : runS L b ds S = .ok d S1 := by
  unfold runS
  rw [h]
theorem or_ok {f g : FB} {E : Ev} {S S1 S2 : Sto} {b : Bool} (h : f E S = .ok false S1) (h2 : g E S1 = .ok b S2) : bOr f g E S = .ok b S2 := by
  simp [bOr, h, h2, ResB.bindB]
theorem or_yes {f g : FB} {E : Ev} {S S1 : Sto} (h : f E S = .ok true S1) : bOr f g E S = .ok true S1 := by
  simp [bOr, h, ResB.bindB]
theorem not_of {f : FE} {E : Ev} {S S1 : Sto} {b : Bool} (h : f E S = .ok (.bl b) S1) : bNot (bOf f) E S = .ok (!b) S1 := by
  simp [bNot, bOf, h, ResB.bindB, Res.bindB, truth]
theorem one_head {x y : D} {S : Sto} : bOr (bNot (bOf (vUn (gIsi itab [.ty "tuple"]) (vV 0)))) (bCmp gNe (vCall gLen (lCons (vV 0) (lNil))) (vC (.int 2))) [some (.tup [x, y]), none] S = .ok false S := by
  simp [vV, vC, vBin, vUn, lNil, lCons, vTup, vLst, vEmp, vIf, vCall, vNot, vAnd, vOr, bOf, bAnd, bOr, bNot, bCmp, truth, sNil, sSeq, sSet, sEx, sRet, sIf, sPut, sSub, sPar, vFn, pick, Pat.put, Pat.puts, SRes.then, gAdd, Z.gSub, gMul_sm, gMod, gDiv, gPow, gNeg, gCmpI, gIx, gLen, gAbs, gInt, gMax2, gMin2, L2.atI, L2.ixN, seqOf, Z.listOf, runS, Res.bind, Res.bindL, Res.bindB, ResL.bind, ResL.bindL, ResB.bind, ResB.bindB, Res.s, ResB.s, List.replicate, it_tup, ne_ii]
theorem frac_bad {x y : D} {a b : Bool} {S : Sto} (hx : wh x = some a) (hy : wh y = some b) (h : (a && b) = false) :
    fn_is_fraction [.tup [x, y]] S = .ok (.bl false) S ∧ ∃ T, fn__law_is_one [.tup [x, y]] S = .ok (.bl false) (S ++ T) := by
  have e1 := fun S => whole_is (S := S) hx
  have e2 := fun S => whole_is (S := S) hy
  have e3 := lc_ok (S := S) hx hy
  rw [h] at e3
  constructor
  · cases a <;> cases b <;> first | cases h; done | simp [fn_is_fraction, b_is_fraction, vV, vC, vBin, vUn, lNil, lCons, vTup, vLst, vEmp, vIf, vCall, vNot, vAnd, vOr, bOf, bAnd, bOr, bNot, bCmp, truth, sNil, sSeq, sSet, sEx, sRet, sIf, sPut, sSub, sPar, vFn, pick, Pat.put, Pat.puts, SRes.then, gAdd, Z.gSub, gMul_sm, gMod, gDiv, gPow, gNeg, gCmpI, gIx, gLen, gAbs, gInt, gMax2, gMin2, L2.atI, L2.ixN, seqOf, Z.listOf, runS, Res.bind, Res.bindL, Res.bindB, ResL.bind, ResL.bindL, ResB.bind, ResB.bindB, Res.s, ResB.s, List.replicate, it_tup, ne_ii, e1, e2]
  · refine ⟨[.lst [.bl a, .bl b]], run_ret ?_⟩
    exact (seq_no one_head).trans (seq_ret (or_yes (not_of e3)) rfl)
theorem frac_ints {n d : Int} {S : Sto} (hn : n.natAbs < 2 ^ 200) (hd : d.natAbs < 2 ^ 200) :
    fn_is_fraction [.tup [.int n, .int d]] S = .ok (.bl (decide (1 ≤ d) && (gg n d == 1))) S ∧ ∃ T, fn__law_is_one [.tup [.int n, .int d]] S = .ok (.bl (decide (1 ≤ d) && (gg n d == 1))) (S ++ T) := by
  have e1 := fun S n => whole_is (d := .int n) (S := S) rfl
  have e3 := lc_ok (x := .int n) (y := .int d) (S := S) rfl rfl
  have hf : fn_is_fraction [.tup [.int n, .int d]] S = .ok (.bl (decide (1 ≤ d) && (gg n d == 1))) S := by
    by_cases h : 1 ≤ d
    · simp [fn_is_fraction, b_is_fraction, vV, vC, vBin, vUn, lNil, lCons, vTup, vLst, vEmp, vIf, vCall, vNot, vAnd, vOr, bOf, bAnd, bOr, bNot, bCmp, truth, sNil, sSeq, sSet, sEx, sRet, sIf, sPut, sSub, sPar, vFn, pick, Pat.put, Pat.puts, SRes.then, gAdd, Z.gSub, gMul_sm, gMod, gDiv, gPow, gNeg, gCmpI, gIx, gLen, gAbs, gInt, gMax2, gMin2, L2.atI, L2.ixN, seqOf, Z.listOf, runS, Res.bind, Res.bindL, Res.bindB, ResL.bind, ResL.bindL, ResB.bind, ResB.bindB, Res.s, ResB.s, List.replicate, it_tup, ne_ii, e1, h, gGcd, eq_ii, gg]
    · simp [fn_is_fraction, b_is_fraction, vV, vC, vBin, vUn, lNil, lCons, vTup, vLst, vEmp, vIf, vCall, vNot, vAnd, vOr, bOf, bAnd, bOr, bNot, bCmp, truth, sNil, sSeq, sSet, sEx, sRet, sIf, sPut, sSub, sPar, vFn, pick, Pat.put, Pat.puts, SRes.then, gAdd, Z.gSub, gMul_sm, gMod, gDiv, gPow, gNeg, gCmpI, gIx, gLen, gAbs, gInt, gMax2, gMin2, L2.atI, L2.ixN, seqOf, Z.listOf, runS, Res.bind, Res.bindL, Res.bindB, ResL.bind, ResL.bindL, ResB.bind, ResB.bindB, Res.s, ResB.s, List.replicate, it_tup, ne_ii, e1, h]
  refine ⟨hf, [.lst [.bl true, .bl true]], run_ret ?_⟩
  have e5 : bCmp gLt (vBin gIx (vV 0) (vC (.int 1))) (vC (.int 1)) [some (.tup [.int n, .int d]), none] (S ++ [.lst [.bl true, .bl true]]) = .ok (decide (d < 1)) (S ++ [.lst [.bl true, .bl true]]) := by
    simp [vV, vC, vBin, vUn, lNil, lCons, vTup, vLst, vEmp, vIf, vCall, vNot, vAnd, vOr, bOf, bAnd, bOr, bNot, bCmp, truth, sNil, sSeq, sSet, sEx, sRet, sIf, sPut, sSub, sPar, vFn, pick, Pat.put, Pat.puts, SRes.then, gAdd, Z.gSub, gMul_sm, gMod, gDiv, gPow, gNeg, gCmpI, gIx, gLen, gAbs, gInt, gMax2, gMin2, L2.atI, L2.ixN, seqOf, Z.listOf, runS, Res.bind, Res.bindL, Res.bindB, ResL.bind, ResL.bindL, ResB.bind, ResB.bindB, Res.s, ResB.s, List.replicate]
  by_cases h : 1 ≤ d
  · have hd0 : d ≠ 0 := by omega
    have hne : ¬ d < 0 := by omega
    have gt := gg_t n d
    have gl := gg_l n d
    have gp := gg_pos (t := n) hd0
    have e6 := reduced_ok (S ++ [.lst [.bl true, .bl true]]) hd0 hn hd
    have e7 : (n == nn n d && d == dd n d) = (gg n d == 1) := by
      rw [Bool.eq_iff_iff]
      simp only [Bool.and_eq_true, beq_iff_eq]
      unfold nn dd
      rw [if_neg hne, if_neg hne]
      constructor
      · rintro ⟨_, q⟩
        rw [← q] at gl
        exact Int.eq_one_of_mul_eq_self_left hd0 gl
      · intro q
        rw [q]
        simp
    have e9 := e5.trans (by rw [decide_eq_false (show ¬ d < 1 by omega)])
    refine (seq_no one_head).trans ((seq_no (or_ok (not_of e3) e9)).trans (one_ret ?_))
    · have e8 : vBin gEq (vV 0) (vCall (vFn 2 [0, 1] [] fn__law_reduced) (lCons (vBin gIx (vV 0) (vC (.int 0))) (lCons (vBin gIx (vV 0) (vC (.int 1))) (lNil)))) [some (.tup [.int n, .int d]), none] (S ++ [.lst [.bl true, .bl true]]) = .ok (.bl (n == nn n d && d == dd n d)) (S ++ [.lst [.bl true, .bl true]]) := by
        simp [vV, vC, vBin, vUn, lNil, lCons, vTup, vLst, vEmp, vIf, vCall, vNot, vAnd, vOr, bOf, bAnd, bOr, bNot, bCmp, truth, sNil, sSeq, sSet, sEx, sRet, sIf, sPut, sSub, sPar, vFn, pick, Pat.put, Pat.puts, SRes.then, gAdd, Z.gSub, gMul_sm, gMod, gDiv, gPow, gNeg, gCmpI, gIx, gLen, gAbs, gInt, gMax2, gMin2, L2.atI, L2.ixN, seqOf, Z.listOf, runS, Res.bind, Res.bindL, Res.bindB, ResL.bind, ResL.bindL, ResB.bind, ResB.bindB, Res.s, ResB.s, List.replicate, e6, eq_tt]
      refine e8.trans ?_
      rw [e7, decide_eq_true h]
      rfl
  · have e9 := e5.trans (by rw [decide_eq_true (show d < 1 by omega)])
    refine (seq_no one_head).trans ((seq_ret (or_ok (not_of e3) e9) ?_))
    rw [decide_eq_false h]
    rfl
end P
namespace P
open PySem PySem.Spec PyProof.Rows L2 Z
/-- data whose text is short -/
structure Ti (k w : Nat) (p : PyData) : Prop where
  sh : p.showable = true
  nd : p.hasDict = false
  cl : p.canLay0 = true
  dp : p.depth ≤ k
  wt : p.weight ≤ w
  sr : p.intsShort 13 = true
structure TiA (k w : Nat) (p : List PyData) : Prop where
  sh : PyData.showableAll p = true
  nd : PyData.hasDictAll p = false
  cl : PyData.canLayAll0 p = true
  dp : PyData.depthAll p ≤ k
  wt : PyData.weightAll p ≤ w
  sr : PyData.intsShortAll 13 p = true
theorem ti_int {i : Int} {k : Nat} (h : i.natAbs < 10 ^ 12) : Ti k 41 (.int i) := by
  have h1 : i.natAbs.log2 ≤ 40 := log_le (by omega)
  refine ⟨?_, rfl, rfl, Nat.zero_le _, ?_, ?_⟩
  · simp only [PyData.showable, decide_eq_true_eq]
    omega
  · simp only [PyData.weight]
    split <;> omega
  · have e := int_text_length_le10 (a := i) (k := 12) (by decide) h
    have e2 : (PyData.int i).shown.length ≤ 13 := by
      show (Str.ofString (toString i)).length ≤ 13
      rw [PySem.ofString_length]
      exact e
    unfold PyData.intsShort
    exact decide_eq_true e2
theorem ti_bl {b : Bool} {k : Nat} : Ti k 0 (.bool b) := ⟨rfl, rfl, rfl, Nat.zero_le _, Nat.le_refl _, rfl⟩
theorem ti_non {k : Nat} : Ti k 0 .none := ⟨rfl, rfl, rfl, Nat.zero_le _, Nat.le_refl _, rfl⟩
theorem ti_str {x : Str} {k : Nat} (h : PyData.strOk x = true) (h2 : x.cps.size ≤ 40) : Ti k 40 (.str x) := ⟨rfl, rfl, by simp only [PyData.canLay0]; exact h, Nat.zero_le _, by simp only [PyData.weight]; exact h2, rfl⟩
theorem tia_nil {k : Nat} : TiA k 0 [] := ⟨rfl, rfl, rfl, Nat.zero_le _, Nat.le_refl _, rfl⟩
theorem tia_cons {k w w2 : Nat} {p : PyData} {ps : List PyData} (h : Ti k w p) (t : TiA k w2 ps) : TiA k (w + 1 + w2) (p :: ps) := by
  refine ⟨?_, ?_, ?_, ?_, ?_, ?_⟩
  · simp only [PyData.showableAll, h.sh, t.sh, Bool.and_self]
  · simp only [PyData.hasDictAll, h.nd, t.nd, Bool.or_self]
  · simp only [PyData.canLayAll0, h.cl, t.cl, Bool.and_self]
  · simp only [PyData.depthAll]
    exact Nat.max_le.mpr ⟨h.dp, t.dp⟩
  · have := h.wt
    have := t.wt
    simp only [PyData.weightAll]
    omega
  · simp only [PyData.intsShortAll, h.sr, t.sr, Bool.and_self]
theorem ti_tup {k w : Nat} {ps : List PyData} (t : TiA k w ps) : Ti (k + 1) w (.tuple ps) :=
  ⟨by simpa only [PyData.showable] using t.sh, by simpa only [PyData.hasDict] using t.nd, by simpa only [PyData.canLay0] using t.cl, by have := t.dp; simp only [PyData.depth]; omega, by simpa only [PyData.weight] using t.wt, by simpa only [PyData.intsShort] using t.sr⟩
theorem ti_lst {k w : Nat} {ps : List PyData} (t : TiA k w ps) : Ti (k + 1) w (.list ps) :=
  ⟨by simpa only [PyData.showable] using t.sh, by simpa only [PyData.hasDict] using t.nd, by simpa only [PyData.canLay0] using t.cl, by have := t.dp; simp only [PyData.depth]; omega, by simpa only [PyData.weight] using t.wt, by simpa only [PyData.intsShort] using t.sr⟩
theorem shows {d : D} {p : PyData} {S : Sto} {k w : Nat} (h : toPD S 40 d = some p) (t : Ti k w p) (hk : k ≤ 60) (hw : w ≤ 2 ^ 20) : gRepr [d] S = .ok (.str p.shown) S := by
  have h1 : p.layable0 = true := by
    have h2 : p.depth ≤ 64 := Nat.le_trans t.dp (by omega)
    have h3 : p.weight ≤ 2 ^ 20 := Nat.le_trans t.wt hw
    unfold PyData.layable0
    rw [t.cl, decide_eq_true h2, decide_eq_true h3]
    rfl
  have h4 := shown_le13 h1 t.sr
  have h5 : p.shown.length ≤ sizeLine := Nat.le_trans h4 (by decide)
  have h6 : p.depth ≤ 60 := Nat.le_trans t.dp hk
  simp only [gRepr, h]
  rw [if_pos (by rw [t.sh, t.nd, decide_eq_true h5, decide_eq_true h6]; rfl)]
structure Good (Hs : Sto → Prop) (d : D) : Prop where
  ex : ∃ z b, ∀ S, Hs S → gRepr [d] S = .ok (.str z) S ∧ fn_is_fraction [d] S = .ok (.bl b) S ∧ ∃ T, fn__law_is_one [d] S = .ok (.bl b) (S ++ T)
section
variable {Hs : Sto → Prop}
theorem good_no {d : D} {p : PyData} {k w : Nat} (hn : ∀ S, Hs S → NoTup d S) (h : ∀ S, Hs S → toPD S 40 d = some p) (t : Ti k w p) (hk : k ≤ 60) (hw : w ≤ 2 ^ 20) : Good Hs d :=
  ⟨_, false, fun S q => ⟨shows (h S q) t hk hw, (frac_no (hn S q)).1, [], by rw [List.append_nil]; exact (frac_no (hn S q)).2⟩⟩
theorem good_len {xs : List D} {p : PyData} {k w : Nat} (hl : xs.length ≠ 2) (h : ∀ S, toPD S 40 (.tup xs) = some p) (t : Ti k w p) (hk : k ≤ 60) (hw : w ≤ 2 ^ 20) : Good Hs (.tup xs) :=
  ⟨_, false, fun S _ => ⟨shows (h S) t hk hw, (frac_len hl).1, [], by rw [List.append_nil]; exact (frac_len hl).2⟩⟩
theorem good_bad {x y : D} {a b : Bool} {p : PyData} {k w : Nat} (hx : wh x = some a) (hy : wh y = some b) (hab : (a && b) = false) (h : ∀ S, toPD S 40 (.tup [x, y]) = some p) (t : Ti k w p) (hk : k ≤ 60) (hw : w ≤ 2 ^ 20) : Good Hs (.tup [x, y]) :=
  ⟨_, false, fun S _ => ⟨shows (h S) t hk hw, (frac_bad hx hy hab).1, (frac_bad hx hy hab).2⟩⟩
theorem good_int {n d : Int} (hn : n.natAbs < 10 ^ 12) (hd : d.natAbs < 10 ^ 12) : Good Hs (.tup [.int n, .int d]) := by
  have key : ∀ S, fn_is_fraction [.tup [.int n, .int d]] S = .ok (.bl (decide (1 ≤ d) && (gg n d == 1))) S ∧ ∃ T, fn__law_is_one [.tup [.int n, .int d]] S = .ok (.bl (decide (1 ≤ d) && (gg n d == 1))) (S ++ T) := fun S => frac_ints (by omega) (by omega)
  exact ⟨_, _, fun S _ => ⟨shows (p := .tuple [.int n, .int d]) rfl (ti_tup (tia_cons (ti_int (k := 0) hn) (tia_cons (ti_int hd) tia_nil))) (by decide) (by decide), key S⟩⟩
end
end P
namespace P
open PySem PySem.Spec PyProof.Rows L2 Z
theorem repr_int {t : Int} {S : Sto} (h : t.natAbs < 10 ^ 12) : gRepr [.int t] S = .ok (.str (PyData.int t).shown) S := shows (p := .int t) rfl (ti_int (k := 0) h) (by decide) (by decide)
theorem part_zero {t : Int} {S : Sto} : fn_part [.int t, .int 0] S = .exc "NoPart" [("n", .int t)] S := by
  simp [fn_part, b_part, vV, vC, vBin, vUn, lNil, lCons, vTup, vLst, vEmp, vIf, vCall, vNot, vAnd, vOr, bOf, bAnd, bOr, bNot, bCmp, truth, sNil, sSeq, sSet, sEx, sRet, sIf, sPut, sSub, sPar, vFn, pick, Pat.put, Pat.puts, SRes.then, gAdd, Z.gSub, gMul_sm, gMod, gDiv, gPow, gNeg, gCmpI, gIx, gLen, gAbs, gInt, gMax2, gMin2, L2.atI, L2.ixN, seqOf, Z.listOf, runS, Res.bind, Res.bindL, Res.bindB, ResL.bind, ResL.bindL, ResB.bind, ResB.bindB, Res.s, ResB.s, List.replicate, eq_ii, sRaise]
theorem refused_ok {t : Int} {S : Sto} (h : t.natAbs < 10 ^ 12) : fn__law_refused [.int t] S = .ok (.bl true) (S ++ [.exc "NoPart" [("n", .int t)]]) := by
  have c1 : ∀ S : Sto, gIsi itab [.own "NoPart"] (.ref S.length) (S ++ [.exc "NoPart" [("n", .int t)]]) = .ok (.bl true) (S ++ [.exc "NoPart" [("n", .int t)]]) := fun S => by
    simp only [gIsi, tyC, get_new]
    rfl
  have c2 : ∀ S : Sto, gIsi itab [.own "LateError"] (.ref S.length) (S ++ [.exc "NoPart" [("n", .int t)]]) = .ok (.bl true) (S ++ [.exc "NoPart" [("n", .int t)]]) := fun S => by
    simp only [gIsi, tyC, get_new]
    rfl
  have c3 : ∀ S : Sto, gIsi itab [.ty "ValueError"] (.ref S.length) (S ++ [.exc "NoPart" [("n", .int t)]]) = .ok (.bl true) (S ++ [.exc "NoPart" [("n", .int t)]]) := fun S => by
    simp only [gIsi, tyC, get_new]
    rfl
  have c4 : ∀ S : Sto, gIsi itab [.own "Missing", .own "NoText", .own "NoWork", .own "TooMany"] (.ref S.length) (S ++ [.exc "NoPart" [("n", .int t)]]) = .ok (.bl false) (S ++ [.exc "NoPart" [("n", .int t)]]) := fun S => by
    simp only [gIsi, tyC, get_new]
    rfl
  have c5 : ∀ S : Sto, gFld ["NoPart"] "n" (.ref S.length) (S ++ [.exc "NoPart" [("n", .int t)]]) = .ok (.int t) (S ++ [.exc "NoPart" [("n", .int t)]]) := fun S => by
    simp only [gFld, get_new]
    rfl
  have c6 : caughtL ct__law_refused_0 "NoPart" = some true := rfl
  simp [fn__law_refused, b__law_refused, vV, vC, vBin, vUn, lNil, lCons, vTup, vLst, vEmp, vIf, vCall, vNot, vAnd, vOr, bOf, bAnd, bOr, bNot, bCmp, truth, sNil, sSeq, sSet, sEx, sRet, sIf, sPut, sSub, sPar, vFn, pick, Pat.put, Pat.puts, SRes.then, gAdd, Z.gSub, gMul_sm, gMod, gDiv, gPow, gNeg, gCmpI, gIx, gLen, gAbs, gInt, gMax2, gMin2, L2.atI, L2.ixN, seqOf, Z.listOf, runS, Res.bind, Res.bindL, Res.bindB, ResL.bind, ResL.bindL, ResB.bind, ResB.bindB, Res.s, ResB.s, List.replicate, part_zero, sTry, c6, c1, c2, c3, c4, c5, repr_int h, gEq]
theorem nn_one (t : Int) : nn t 1 = t := by
  unfold nn gg
  simp
theorem dd_one (t : Int) : dd t 1 = 1 := by
  unfold dd gg
  simp
theorem nn_neg {t l : Int} (h : l ≠ 0) : nn (-t) (-l) = nn t l := by
  have e : gg (-t) (-l) = gg t l := by unfold gg; rw [Int.natAbs_neg, Int.natAbs_neg]
  have d1 : gg t l ∣ t := ⟨_, (gg_t t l).symm⟩
  unfold nn
  rw [e, Int.neg_ediv_of_dvd d1]
  by_cases q : l < 0
  · rw [if_pos q, if_neg (by omega)]
  · rw [if_neg q, if_pos (by omega), Int.neg_neg]
theorem dd_neg {t l : Int} (h : l ≠ 0) : dd (-t) (-l) = dd t l := by
  have e : gg (-t) (-l) = gg t l := by unfold gg; rw [Int.natAbs_neg, Int.natAbs_neg]
  have d1 : gg t l ∣ l := ⟨_, (gg_l t l).symm⟩
  unfold dd
  rw [e, Int.neg_ediv_of_dvd d1]
  by_cases q : l < 0
  · rw [if_pos q, if_neg (by omega)]
  · rw [if_neg q, if_pos (by omega), Int.neg_neg]
theorem abs_div {g x : Int} (h : 0 < g) : (x / g).natAbs ≤ x.natAbs := by
  have := Int.natAbs_ediv_le_natAbs x g
  exact this
theorem nn_le {t l : Int} (h : l ≠ 0) : (nn t l).natAbs ≤ t.natAbs := by
  have := abs_div (x := t) (gg_pos (t := t) h)
  unfold nn
  split
  · rw [Int.natAbs_neg]; exact this
  · exact this
theorem dd_le {t l : Int} (h : l ≠ 0) : (dd t l).natAbs ≤ l.natAbs := by
  have := abs_div (x := l) (gg_pos (t := t) h)
  unfold dd
  split
  · rw [Int.natAbs_neg]; exact this
  · exact this
theorem dd_pos {t l : Int} (h : l ≠ 0) : 1 ≤ dd t l := by
  have h1 := gg_pos (t := t) h
  have h2 := gg_l t l
  unfold dd
  split
  · have : l / gg t l < 0 := by
      apply Int.not_le.mp
      intro q
      have := Int.mul_nonneg (Int.le_of_lt h1) q
      omega
    omega
  · have : 0 < l / gg t l := by
      apply Int.not_le.mp
      intro q
      have := Int.mul_nonpos_of_nonneg_of_nonpos (Int.le_of_lt h1) q
      omega
    omega
theorem gg_nf {t l : Int} (h : l ≠ 0) : gg (nn t l) (dd t l) = 1 := by
  have hp : 0 < Int.gcd t l := Int.gcd_pos_of_ne_zero_right _ h
  have e : Int.gcd (t / gg t l) (l / gg t l) = 1 := Int.gcd_ediv_gcd_ediv_gcd hp
  unfold nn dd
  split
  · have e2 : Int.gcd (-(t / gg t l)) (-(l / gg t l)) = 1 := by rw [Int.gcd_neg, Int.neg_gcd, e]
    show ((Int.gcd (-(t / gg t l)) (-(l / gg t l)) : Nat) : Int) = 1
    rw [e2]
    rfl
  · show ((Int.gcd (t / gg t l) (l / gg t l) : Nat) : Int) = 1
    rw [e]
    rfl
end P
namespace P
open PySem PySem.Spec PyProof.Rows L2 Z
noncomputable def thB : FS := sSeq (sSet 5 (vLst (lCons (vV 1) (lCons (vTup (lCons (vV 2) (lCons (vUn gNeg (vV 3)) (lNil)))) (lCons (vTup (lCons (vUn gNeg (vV 2)) (lCons (vV 3) (lNil)))) (lCons (vTup (lCons (vBin gMul (vV 2) (vV 4)) (lCons (vBin gMul (vV 3) (vV 4)) (lNil)))) (lCons (vTup (lCons (vV 2) (lCons (vC (.int 0)) (lNil)))) (lCons (vTup (lCons (vC (.int 0)) (lCons (vV 3) (lNil)))) (lCons (vTup (lCons (vV 2) (lCons (vV 3) (lCons (vC (.int 1)) (lNil))))) (lCons (vTup (lCons (vV 2) (lNil))) (lNil))))))))))) (sSeq (sSet 5 (vBin gAdd (vV 5) (vLst (lCons (vLst (lCons (vV 2) (lCons (vV 3) (lNil)))) (lNil))))) (sSeq (sSet 5 (vBin gAdd (vV 5) (vLst (lCons (vTup (lCons (vV 2) (lCons (vC (.bl true)) (lNil)))) (lCons (vTup (lCons (vC (.bl true)) (lCons (vV 3) (lNil)))) (lCons (vTup (lCons (vC (.bl false)) (lCons (vC (.int 1)) (lNil)))) (lCons (vTup (lCons (vV 2) (lCons (vCall gStr (lCons (vV 3) (lNil))) (lNil)))) (lCons (vTup (lCons (vV 2) (lCons (vTup (lCons (vV 3) (lNil))) (lNil)))) (lCons (vTup (lCons (vV 1) (lCons (vC (.int 1)) (lNil)))) (lCons (vC .non) (lCons (vC (.bl true)) (lCons (vV 2) (lNil))))))))))))) (sSeq (sRet (vBin gAdd (vV 5) (vLst (lCons (vC (.str "1/2")) (lCons (vTup (lNil)) (lCons (vEmp) (lCons (vLst (lNil)) (lCons (vTup (lCons (vC .non) (lCons (vC (.int 1)) (lNil)))) (lCons (vTup (lCons (vV 2) (lCons (vC .non) (lNil)))) (lCons (vTup (lCons (vC (.int 0)) (lCons (vC (.int 1)) (lNil)))) (lCons (vTup (lCons (vC (.int 0)) (lCons (vC (.int 2)) (lNil)))) (lCons (vTup (lCons (vTup (lCons (vC (.int 1)) (lCons (vC (.int 2)) (lNil)))) (lCons (vTup (lCons (vC (.int 1)) (lCons (vC (.int 2)) (lNil)))) (lNil)))) (lCons (vTup (lCons (vV 3) (lCons (vV 3) (lNil)))) (lCons (vTup (lCons (vC (.int 1)) (lCons (vC (.int 1)) (lNil)))) (lNil))))))))))))))) (sNil))))
def thA (T L M : Int) : List D := [.tup [.int T, .int L], .tup [.int T, .int (-L)], .tup [.int (-T), .int L], .tup [.int (T * M), .int (L * M)], .tup [.int T, .int 0], .tup [.int 0, .int L], .tup [.int T, .int L, .int 1], .tup [.int T]]
def thC (T L : Int) : List D := [.tup [.int T, .bl true], .tup [.bl true, .int L], .tup [.bl false, .int 1], .tup [.int T, .str (Str.ofString L.repr)], .tup [.int T, .tup [.int L]], .tup [.tup [.int T, .int L], .int 1], .non, .bl true, .int T]
def thD (T L : Int) (k : Nat) : List D := [.str (Str.ofString "1/2"), .tup [], .emp, .ref (k + 6), .tup [.non, .int 1], .tup [.int T, .non], .tup [.int 0, .int 1], .tup [.int 0, .int 2], .tup [.tup [.int 1, .int 2], .tup [.int 1, .int 2]], .tup [.int L, .int L], .tup [.int 1, .int 1]]
theorem th_ok {S : Sto} {p : Nat} {T L M : Int} (hT : Sm T) (hL : Sm L) (hM : Sm M) (hs : L.natAbs.log2 < 1920) :
    thB [some (.ref p), some (.tup [.int T, .int L]), some (.int T), some (.int L), some (.int M), none] S = .ret (.ref (S.length + 8))
      (S ++ [.lst (thA T L M), .lst [.int T, .int L], .lst [.ref (S.length + 1)], .lst (thA T L M ++ [.ref (S.length + 1)]), .lst (thC T L), .lst (thA T L M ++ [.ref (S.length + 1)] ++ thC T L), .lst [], .lst (thD T L S.length), .lst (thA T L M ++ [.ref (S.length + 1)] ++ thC T L ++ thD T L S.length)]) := by
  simp [thB, vV, vC, vBin, vUn, lNil, lCons, vTup, vLst, vEmp, vIf, vCall, vNot, vAnd, vOr, bOf, bAnd, bOr, bNot, bCmp, truth, sNil, sSeq, sSet, sEx, sRet, sIf, sPut, sSub, sPar, vFn, pick, Pat.put, Pat.puts, SRes.then, gAdd, Z.gSub, gMul_sm, gMod, gDiv, gPow, gNeg, gCmpI, gIx, gLen, gAbs, gInt, gMax2, gMin2, L2.atI, L2.ixN, seqOf, Z.listOf, runS, Res.bind, Res.bindL, Res.bindB, ResL.bind, ResL.bindL, ResB.bind, ResB.bindB, Res.s, ResB.s, List.replicate, hT, hL, hM, hs, gStr, List.getElem?_append, thA, thC, thD]
theorem chr_ok (x : String) : PyData.strOk (Str.ofString x) = true := by
  unfold PyData.strOk
  rw [Str.ofString_eq_toList, Array.all_eq_true_iff_forall_mem]
  intro c hc
  have h : c ∈ x.toList.map (·.toNat) := by simpa using hc
  obtain ⟨d, _, rfl⟩ := List.mem_map.mp h
  have v : d.toNat < 0xD800 ∨ (0xDFFF < d.toNat ∧ d.toNat < 0x110000) := d.valid
  rw [decide_eq_true_eq]
  omega
def Hk (k : Nat) (T L : Int) (S : Sto) : Prop := S[k + 1]? = some (.lst [.int T, .int L]) ∧ S[k + 6]? = some (.lst [])
theorem Hk.grow {k : Nat} {T L : Int} {S : Sto} (h : Hk k T L S) (U : Sto) : Hk k T L (S ++ U) :=
  ⟨by rw [List.getElem?_append_left (lt_of h.1)]; exact h.1, by rw [List.getElem?_append_left (lt_of h.2)]; exact h.2⟩
theorem good_all {T L M : Int} {k : Nat} (hT : T.natAbs < 10 ^ 12) (hL : L.natAbs < 10 ^ 12) (hTM : (T * M).natAbs < 10 ^ 12) (hLM : (L * M).natAbs < 10 ^ 12) :
    ∀ d ∈ thA T L M ++ [.ref (k + 1)] ++ thC T L ++ thD T L k, Good (Hk k T L) d := by
  have i0 : (0 : Int).natAbs < 10 ^ 12 := by decide
  have i1 : (1 : Int).natAbs < 10 ^ 12 := by decide
  have i2 : (2 : Int).natAbs < 10 ^ 12 := by decide
  have nT : (-T).natAbs < 10 ^ 12 := by rw [Int.natAbs_neg]; exact hT
  have nL : (-L).natAbs < 10 ^ 12 := by rw [Int.natAbs_neg]; exact hL
  have sL : (Str.ofString L.repr).cps.size ≤ 40 := by
    have e : (Str.ofString (toString L)).length ≤ 13 := by
      rw [PySem.ofString_length]
      exact int_text_length_le10 (a := L) (k := 12) (by decide) hL
    have e2 : (Str.ofString L.repr).length ≤ 13 := e
    have e3 : (Str.ofString L.repr).cps.size ≤ 13 := e2
    omega
  have all : ∀ {xs ys : List D}, (∀ d ∈ xs, Good (Hk k T L) d) → (∀ d ∈ ys, Good (Hk k T L) d) → ∀ d ∈ xs ++ ys, Good (Hk k T L) d := fun h1 h2 d hd => (List.mem_append.mp hd).elim (h1 d) (h2 d)
  have cons : ∀ {x : D} {ys : List D}, Good (Hk k T L) x → (∀ d ∈ ys, Good (Hk k T L) d) → ∀ d ∈ x :: ys, Good (Hk k T L) d := fun h1 h2 d hd => (List.mem_cons.mp hd).elim (fun e => e ▸ h1) (h2 d)
  have nil : ∀ d ∈ ([] : List D), Good (Hk k T L) d := fun d hd => by cases hd
  have t1 : ∀ {i : Int} {j : Nat}, i.natAbs < 10 ^ 12 → Ti j 41 (.int i) := fun h => ti_int h
  refine all (all (all ?_ ?_) ?_) ?_
  · refine cons (good_int hT hL) (cons (good_int hT nL) (cons (good_int nT hL) (cons (good_int hTM hLM) (cons (good_int hT i0) (cons (good_int i0 hL) (cons ?_ (cons ?_ nil)))))))
    · exact good_len (Nat.ne_of_beq_eq_false rfl) (fun S => rfl) (ti_tup (tia_cons (t1 (j := 0) hT) (tia_cons (t1 hL) (tia_cons (t1 i1) tia_nil)))) (by decide) (by decide)
    · exact good_len (Nat.ne_of_beq_eq_false rfl) (fun S => rfl) (ti_tup (tia_cons (t1 (j := 0) hT) tia_nil)) (by decide) (by decide)
  · refine cons ?_ nil
    exact good_no (fun S h => it_ref h.1) (fun S h => by simp [toPD, h.1, optAll]) (ti_lst (tia_cons (t1 (j := 0) hT) (tia_cons (t1 hL) tia_nil))) (by decide) (by decide)
  · refine cons ?_ (cons ?_ (cons ?_ (cons ?_ (cons ?_ (cons ?_ (cons ?_ (cons ?_ (cons ?_ nil))))))))
    · exact good_bad rfl rfl rfl (fun S => rfl) (ti_tup (tia_cons (t1 (j := 0) hT) (tia_cons ti_bl tia_nil))) (by decide) (by decide)
    · exact good_bad rfl rfl rfl (fun S => rfl) (ti_tup (tia_cons (ti_bl (k := 0)) (tia_cons (t1 hL) tia_nil))) (by decide) (by decide)
    · exact good_bad rfl rfl rfl (fun S => rfl) (ti_tup (tia_cons (ti_bl (k := 0)) (tia_cons (t1 i1) tia_nil))) (by decide) (by decide)
    · exact good_bad rfl rfl rfl (fun S => rfl) (ti_tup (tia_cons (t1 (j := 0) hT) (tia_cons (ti_str (chr_ok _) sL) tia_nil))) (by decide) (by decide)
    · exact good_bad rfl rfl rfl (fun S => rfl) (ti_tup (tia_cons (t1 (j := 1) hT) (tia_cons (ti_tup (tia_cons (t1 hL) tia_nil)) tia_nil))) (by decide) (by decide)
    · exact good_bad rfl rfl rfl (fun S => rfl) (ti_tup (tia_cons (ti_tup (tia_cons (t1 (j := 0) hT) (tia_cons (t1 hL) tia_nil))) (tia_cons (t1 i1) tia_nil))) (by decide) (by decide)
    · exact good_no (fun S _ => it_non S) (fun S _ => rfl) (ti_non (k := 0)) (by decide) (by decide)
    · exact good_no (fun S _ => it_bl _ S) (fun S _ => rfl) (ti_bl (k := 0)) (by decide) (by decide)
    · exact good_no (fun S _ => it_int _ S) (fun S _ => rfl) (t1 (j := 0) hT) (by decide) (by decide)
  · refine cons ?_ (cons ?_ (cons ?_ (cons ?_ (cons ?_ (cons ?_ (cons (good_int i0 i1) (cons (good_int i0 i2) (cons ?_ (cons (good_int hL hL) (cons (good_int i1 i1) nil))))))))))
    · exact good_no (fun S _ => it_str _ S) (fun S _ => rfl) (ti_str (k := 0) (chr_ok _) (by decide)) (by decide) (by decide)
    · exact good_len (Nat.ne_of_beq_eq_false rfl) (fun S => rfl) (ti_tup (tia_nil (k := 0))) (by decide) (by decide)
    · exact ⟨Str.ofString "{}", false, fun S _ => ⟨rfl, (frac_no (it_emp S)).1, [], by rw [List.append_nil]; exact (frac_no (it_emp S)).2⟩⟩
    · exact good_no (fun S h => it_ref h.2) (fun S h => by simp [toPD, h.2, optAll]) (ti_lst (tia_nil (k := 0))) (by decide) (by decide)
    · exact good_bad rfl rfl rfl (fun S => rfl) (ti_tup (tia_cons (ti_non (k := 0)) (tia_cons (t1 i1) tia_nil))) (by decide) (by decide)
    · exact good_bad rfl rfl rfl (fun S => rfl) (ti_tup (tia_cons (t1 (j := 0) hT) (tia_cons ti_non tia_nil))) (by decide) (by decide)
    · exact good_bad rfl rfl rfl (fun S => rfl) (ti_tup (tia_cons (ti_tup (tia_cons (t1 (j := 0) i1) (tia_cons (t1 i2) tia_nil))) (tia_cons (ti_tup (tia_cons (t1 i1) (tia_cons (t1 i2) tia_nil))) tia_nil))) (by decide) (by decide)
end P
namespace P
open PySem PySem.Spec PyProof.Rows L2 Z
theorem mul_small {a b : Int} (ha : a.natAbs < 10 ^ 10) (hb : b.natAbs ≤ 31) : (a * b).natAbs < 10 ^ 12 := by
  rw [Int.natAbs_mul]
  have := Nat.mul_le_mul (Nat.le_of_lt ha) hb
  omega
theorem things_ok {S : Sto} {p : Nat} {g s T L : Int} (hp : S[p]? = some (pc g s)) (P0 : Pot g s) (hT : T.natAbs < 10 ^ 12) (hL1 : 1 ≤ L) (hL : L.natAbs < 10 ^ 12) :
    ∃ (n : Nat) (S' : Sto) (items : List D) (Hs : Sto → Prop), fn__law_things [.ref p, .tup [.int T, .int L]] S = .ok (.ref n) S' ∧ S'[n]? = some (.lst items) ∧ Fr p S S' ∧ Hs S' ∧ (∀ S U, Hs S → Hs (S ++ U)) ∧ ∀ d ∈ items, Good Hs d := by
  have lt := lt_of hp
  have sT : Sm T := sm_of (by omega) (by omega)
  have sL : Sm L := sm_of (by omega) (by omega)
  have lg : L.natAbs.log2 < 1920 := Nat.lt_of_le_of_lt (log_le (k := 39) (by omega)) (by decide)
  have fin : ∀ (M : Int) (S1 : Sto), Sm M → (T * M).natAbs < 10 ^ 12 → (L * M).natAbs < 10 ^ 12 → Fr p S S1 →
      (∀ E, vIf (bCmp gLt (vCall gMax2 (lCons (vCall gAbs (lCons (vV 2) (lNil))) (lCons (vV 3) (lNil)))) (vBin gPow (vC (.int 10)) (vC (.int 10)))) (vBin gAdd (vC (.int 2)) (vCall (vFn 2 [0, 1] [] fn__law_take) (lCons (vV 0) (lCons (vC (.int 30)) (lNil))))) (vC (.int 1)) (some (.ref p) :: some (.tup [.int T, .int L]) :: some (.int T) :: some (.int L) :: E) S = .ok (.int M) S1) →
      ∃ (n : Nat) (S' : Sto) (items : List D) (Hs : Sto → Prop), fn__law_things [.ref p, .tup [.int T, .int L]] S = .ok (.ref n) S' ∧ S'[n]? = some (.lst items) ∧ Fr p S S' ∧ Hs S' ∧ (∀ S U, Hs S → Hs (S ++ U)) ∧ ∀ d ∈ items, Good Hs d := by
    intro M S1 sM h1 h2 F hif
    have e1 : ∀ (R : FS), sSeq (sPut (.tp [.nm 2, .nm 3]) (vV 1)) R [some (.ref p), some (.tup [.int T, .int L]), none, none, none, none] S = R [some (.ref p), some (.tup [.int T, .int L]), some (.int T), some (.int L), none, none] S := fun R => by
      simp [vV, vC, vBin, vUn, lNil, lCons, vTup, vLst, vEmp, vIf, vCall, vNot, vAnd, vOr, bOf, bAnd, bOr, bNot, bCmp, truth, sNil, sSeq, sSet, sEx, sRet, sIf, sPut, sSub, sPar, vFn, pick, Pat.put, Pat.puts, SRes.then, gAdd, Z.gSub, gMul_sm, gMod, gDiv, gPow, gNeg, gCmpI, gIx, gLen, gAbs, gInt, gMax2, gMin2, L2.atI, L2.ixN, seqOf, Z.listOf, runS, Res.bind, Res.bindL, Res.bindB, ResL.bind, ResL.bindL, ResB.bind, ResB.bindB, Res.s, ResB.s, List.replicate]
    have key := run_ret (L := 6) (b := b__law_things) (ds := [.ref p, .tup [.int T, .int L]]) (S := S) ((e1 _).trans ((seq_set (hif _)).trans (th_ok (p := p) sT sL sM lg)))
    refine ⟨_, _, _, Hk S1.length T L, key, ?_, F.grow _, ⟨?_, ?_⟩, fun S U h => h.grow U, good_all (k := S1.length) hT hL h1 h2⟩
    · simp [List.getElem?_append]
    · simp [List.getElem?_append]
    · simp [List.getElem?_append]
  by_cases hm : (if L > (if T < 0 then -T else T) then L else (if T < 0 then -T else T)) < 10 ^ 10
  · obtain ⟨r, S1, hr, hr2, F, _, e⟩ := take_fr hp P0 (u := 30) (by decide) (by decide)
    have hT2 : T.natAbs < 10 ^ 10 := by
      split at hm <;> split at hm <;> omega
    have hL2 : L.natAbs < 10 ^ 10 := by
      split at hm <;> split at hm <;> omega
    refine fin (2 + r) S1 (sm_of (by omega) (by omega)) (mul_small hT2 (by omega)) (mul_small hL2 (by omega)) F (fun E => ?_)
    have hm2 : (if L > (if T < 0 then -T else T) then L else (if T < 0 then -T else T)) < 10000000000 := by omega
    simp [vV, vC, vBin, vUn, lNil, lCons, vTup, vLst, vEmp, vIf, vCall, vNot, vAnd, vOr, bOf, bAnd, bOr, bNot, bCmp, truth, sNil, sSeq, sSet, sEx, sRet, sIf, sPut, sSub, sPar, vFn, pick, Pat.put, Pat.puts, SRes.then, gAdd, Z.gSub, gMul_sm, gMod, gDiv, gPow, gNeg, gCmpI, gIx, gLen, gAbs, gInt, gMax2, gMin2, L2.atI, L2.ixN, seqOf, Z.listOf, runS, Res.bind, Res.bindL, Res.bindB, ResL.bind, ResL.bindL, ResB.bind, ResB.bindB, Res.s, ResB.s, List.replicate, e, hm2]
  · refine fin 1 S (sm_of (by decide) (by decide)) (by rw [Int.mul_one]; exact hT) (by rw [Int.mul_one]; exact hL) (Fr.self hp P0) (fun E => ?_)
    have hm2 : ¬ (if L > (if T < 0 then -T else T) then L else (if T < 0 then -T else T)) < 10000000000 := by omega
    simp [vV, vC, vBin, vUn, lNil, lCons, vTup, vLst, vEmp, vIf, vCall, vNot, vAnd, vOr, bOf, bAnd, bOr, bNot, bCmp, truth, sNil, sSeq, sSet, sEx, sRet, sIf, sPut, sSub, sPar, vFn, pick, Pat.put, Pat.puts, SRes.then, gAdd, Z.gSub, gMul_sm, gMod, gDiv, gPow, gNeg, gCmpI, gIx, gLen, gAbs, gInt, gMax2, gMin2, L2.atI, L2.ixN, seqOf, Z.listOf, runS, Res.bind, Res.bindL, Res.bindB, ResL.bind, ResL.bindL, ResB.bind, ResB.bindB, Res.s, ResB.s, List.replicate, hm2]
end P
namespace P
open PySem PySem.Spec PyProof.Rows L2 Z
section
variable {E : Ev} {S S1 S2 S3 : Sto} {f f1 f2 : FE} {x y d : D} {b : Bool}
theorem cmp_ok {g : D → D → Sto → Res} (h1 : f1 E S = .ok x S1) (h2 : f2 E S1 = .ok y S2) (h3 : g x y S2 = .ok (.bl b) S3) : bCmp g f1 f2 E S = .ok b S3 := by
  simp [bCmp, h1, h2, h3, Res.bindB]
theorem call1 {g : List D → Sto → Res} {r : Res} (h : f E S = .ok d S1) (h2 : g [d] S1 = r) : vCall g (lCons f lNil) E S = r := by
  simp [vCall, lCons, lNil, h, h2, Res.bindL, ResL.bind, ResL.bindL]
theorem call2 {g : List D → Sto → Res} {r : Res} (h : f1 E S = .ok x S1) (h' : f2 E S1 = .ok y S2) (h2 : g [x, y] S2 = r) : vCall g (lCons f1 (lCons f2 lNil)) E S = r := by
  simp [vCall, lCons, lNil, h, h', h2, Res.bindL, ResL.bind, ResL.bindL]
theorem fn1 {F : List D → Sto → Res} {r : Res} (h : F [d] S = r) : vFn 1 [0] [] F [d] S = r := by
  rw [← h]
  rfl
theorem fn2 {F : List D → Sto → Res} {dfl : List D} {r : Res} (h : F [x, y] S = r) : vFn 2 [0, 1] dfl F [x, y] S = r := by
  rw [← h]
  rfl
theorem lst1 (h : f E S = .ok d S1) : vLst (lCons f lNil) E S = .ok (.ref S1.length) (S1 ++ [.lst [d]]) := by
  simp [vLst, lCons, lNil, h, Res.bindL, ResL.bind, ResL.bindL]
theorem lst2 (h : f1 E S = .ok x S1) (h' : f2 E S1 = .ok y S2) : vLst (lCons f1 (lCons f2 lNil)) E S = .ok (.ref S2.length) (S2 ++ [.lst [x, y]]) := by
  simp [vLst, lCons, lNil, h, h', Res.bindL, ResL.bind, ResL.bindL]
theorem mul_lst {n : Nat} {xs : List D} {k : Int} (h : S[n]? = some (.lst xs)) (h0 : 0 ≤ k) (h1 : k ≤ 1000) (h2 : xs.length ≤ 1000) : gMul (.ref n) (.int k) S = .ok (.ref S.length) (S ++ [.lst (List.replicate k.toNat xs).flatten]) := by
  simp [gMul, h, h0, h1, h2]
theorem bin_ok {g : D → D → Sto → Res} {r : Res} (h1 : f1 E S = .ok x S1) (h2 : f2 E S1 = .ok y S2) (h3 : g x y S2 = r) : vBin g f1 f2 E S = r := by
  simp [vBin, h1, h2, h3, Res.bind]
theorem same_str {z : Str} : gNe (.str z) (.str z) S = .ok (.bl false) S := by
  simp [gNe]
theorem par_ok {i j : Nat} (h1 : f1 E S = .ok x S1) (h2 : f2 E S1 = .ok y S2) {R : FS} : sSeq (sPar i j (lCons f1 (lCons f2 lNil))) R E S = R ((E.set i (some x)).set j (some y)) S2 := by
  simp [sSeq, sPar, lCons, lNil, h1, h2, Res.bindL, ResL.bindL, SRes.then]
end
theorem last_at (S U : Sto) (c : Cell) : (S ++ U ++ [c])[(S ++ U).length]? = some c := by simp
noncomputable def inB : FS := sSeq (sPar 7 5 (lCons (vCall gRepr (lCons (vV 6) (lNil))) (lCons (vLst (lCons (vCall (vFn 1 [0] [] fn_is_fraction) (lCons (vV 6) (lNil))) (lCons (vCall (vFn 1 [0] [] fn_is_fraction) (lCons (vV 6) (lNil))) (lNil)))) (lNil)))) (sSeq (sIf (bOr (bCmp gNe (vCall gRepr (lCons (vV 5) (lNil))) (vCall gRepr (lCons (vBin gMul (vLst (lCons (vCall (vFn 1 [0] [] fn__law_is_one) (lCons (vV 6) (lNil))) (lNil))) (vC (.int 2))) (lNil)))) (bCmp gNe (vCall gRepr (lCons (vV 6) (lNil))) (vV 7))) (sSeq (sRet (vC (.bl false))) (sNil)) (sNil)) (sNil))
theorem in_ok {Hs : Sto → Prop} (gr : ∀ S U, Hs S → Hs (S ++ U)) {S : Sto} {d : D} (hd : Good Hs d) (hS : Hs S) (a0 a1 a2 a3 a4 a5 a7 : Option D) :
    ∃ b5 b7 U, inB [a0, a1, a2, a3, a4, a5, some d, a7] S = .nx [a0, a1, a2, a3, a4, b5, some d, b7] (S ++ U) := by
  obtain ⟨z, b, hz⟩ := hd.ex
  obtain ⟨r1, f1, _⟩ := hz S hS
  let c1 : Cell := .lst [.bl b, .bl b]
  obtain ⟨_, _, U1, o1⟩ := hz (S ++ [c1]) (gr _ _ hS)
  let S2 : Sto := S ++ [c1] ++ U1
  let S3 : Sto := S2 ++ [.lst [.bl b]]
  let S4 : Sto := S3 ++ [c1]
  have h4 : Hs S4 := gr _ _ (gr _ _ (gr _ _ (gr _ _ hS)))
  obtain ⟨r4, _, _⟩ := hz S4 h4
  have hfr : ∀ E : Ev, E[6]? = some (some d) → vCall (vFn 1 [0] [] fn_is_fraction) (lCons (vV 6) lNil) E S = .ok (.bl b) S := fun E h => call1 (by simp [vV, h]) (fn1 f1)
  have p0 : ∀ (R : FS), sSeq (sPar 7 5 (lCons (vCall gRepr (lCons (vV 6) (lNil))) (lCons (vLst (lCons (vCall (vFn 1 [0] [] fn_is_fraction) (lCons (vV 6) (lNil))) (lCons (vCall (vFn 1 [0] [] fn_is_fraction) (lCons (vV 6) (lNil))) (lNil)))) (lNil)))) R [a0, a1, a2, a3, a4, a5, some d, a7] S = R [a0, a1, a2, a3, a4, some (.ref S.length), some d, some (.str z)] (S ++ [c1]) := fun R =>
    par_ok (call1 (d := d) rfl r1) (lst2 (hfr _ rfl) (hfr _ rfl))
  let E1 : Ev := [a0, a1, a2, a3, a4, some (.ref S.length), some d, some (.str z)]
  have tb : ∀ {S : Sto} {n : Nat}, S[n]? = some c1 → gRepr [.ref n] S = .ok (.str (PyData.list [.bool b, .bool b]).shown) S := fun {S n} h =>
    shows (k := 1) (w := 2) (by simp [toPD, h, c1, optAll]) (ti_lst (tia_cons ti_bl (tia_cons ti_bl tia_nil))) (by decide) (by decide)
  have q1 : vCall gRepr (lCons (vV 5) lNil) E1 (S ++ [c1]) = .ok (.str (PyData.list [.bool b, .bool b]).shown) (S ++ [c1]) := call1 (d := .ref S.length) rfl (tb (get_new S c1))
  have q2 : vCall (vFn 1 [0] [] fn__law_is_one) (lCons (vV 6) lNil) E1 (S ++ [c1]) = .ok (.bl b) S2 := call1 (d := d) rfl (fn1 o1)
  have q3 : vBin gMul (vLst (lCons (vCall (vFn 1 [0] [] fn__law_is_one) (lCons (vV 6) (lNil))) (lNil))) (vC (.int 2)) E1 (S ++ [c1]) = .ok (.ref S3.length) S4 :=
    bin_ok (lst1 q2) rfl (mul_lst (xs := [.bl b]) (get_new S2 _) (by decide) (by decide) (Nat.le_of_ble_eq_true rfl))
  have q4 : vCall gRepr (lCons (vBin gMul (vLst (lCons (vCall (vFn 1 [0] [] fn__law_is_one) (lCons (vV 6) (lNil))) (lNil))) (vC (.int 2))) lNil) E1 (S ++ [c1]) = .ok (.str (PyData.list [.bool b, .bool b]).shown) S4 := call1 q3 (tb (get_new S3 c1))
  have q5 : vCall gRepr (lCons (vV 6) lNil) E1 S4 = .ok (.str z) S4 := call1 (d := d) rfl r4
  refine ⟨some (.ref S.length), some (.str z), [c1] ++ U1 ++ [.lst [.bl b]] ++ [c1], ?_⟩
  refine (p0 _).trans ((seq_no (or_ok (cmp_ok q1 q4 same_str) (cmp_ok q5 (y := .str z) rfl same_str))).trans ?_)
  show SRes.nx E1 S4 = _
  simp [E1, S4, S3, S2]
end P
namespace P
open PySem PySem.Spec PyProof.Rows L2 Z
theorem in_for {Hs : Sto → Prop} (gr : ∀ S U, Hs S → Hs (S ++ U)) {n : Nat} {items : List D} (a0 a1 a2 a3 a4 : Option D) : ∀ (rest : List D) (S : Sto) (a5 a6 a7 : Option D), (∀ d ∈ rest, Good Hs d) → Hs S → S[n]? = some (.lst items) →
    ∃ b5 b6 b7 U, forS (.nm 6) inB (some n) items rest [a0, a1, a2, a3, a4, a5, a6, a7] S = .nx [a0, a1, a2, a3, a4, b5, b6, b7] (S ++ U)
  | [], S, a5, a6, a7, _, _, hn => ⟨a5, a6, a7, [], by
      unfold forS
      rw [srcIf_some hn, List.append_nil]⟩
  | d :: r, S, a5, a6, a7, hg, hS, hn => by
    obtain ⟨b5, b7, U, e⟩ := in_ok gr (hg d List.mem_cons_self) hS a0 a1 a2 a3 a4 a5 a7
    obtain ⟨c5, c6, c7, U2, e2⟩ := in_for gr a0 a1 a2 a3 a4 r (S ++ U) b5 (some d) b7 (fun x hx => hg x (List.mem_cons_of_mem _ hx)) (gr _ _ hS) (by rw [List.getElem?_append_left (lt_of hn)]; exact hn)
    refine ⟨c5, c6, c7, U ++ U2, ?_⟩
    unfold forS
    rw [srcIf_some hn]
    have e0 : Pat.put (.nm 6) d [a0, a1, a2, a3, a4, a5, a6, a7] = some [a0, a1, a2, a3, a4, a5, some d, a7] := rfl
    rw [e0]
    simp only [e, e2, List.append_assoc]
noncomputable def outB : FS := sSeq (sPar 2 3 (lCons (vCall (vFn 1 [0] [] fn__law_whole) (lCons (vV 0) (lNil))) (lCons (vCall (vFn 1 [0] [] fn__law_whole) (lCons (vV 0) (lNil))) (lNil)))) (sSeq (sIf (bOr (bNot (bOf (vCall (vFn 1 [0] [] fn__law_refused) (lCons (vV 2) (lNil))))) (bOr (bCmp gNe (vCall (vFn 1 [0, 1] dfl_part fn_part) (lCons (vV 2) (lNil))) (vTup (lCons (vV 2) (lCons (vC (.int 1)) (lNil))))) (bCmp gNe (vCall (vFn 1 [0, 1] dfl_part fn_part) (lCons (vV 2) (lNil))) (vTup (lCons (vV 2) (lCons (vC (.int 1)) (lNil))))))) (sSeq (sRet (vC (.bl false))) (sNil)) (sNil)) (sSeq (sSet 3 (vIf (bCmp gNe (vV 3) (vC (.int 0))) (vV 3) (vC (.int 1)))) (sSeq (sSet 4 (vCall (vFn 2 [0, 1] [] fn__law_reduced) (lCons (vV 2) (lCons (vV 3) (lNil))))) (sSeq (sSet 5 (vLst (lCons (vCall (vFn 2 [0, 1] dfl_part fn_part) (lCons (vV 2) (lCons (vV 3) (lNil)))) (lCons (vCall (vFn 2 [0, 1] dfl_part fn_part) (lCons (vV 2) (lCons (vV 3) (lNil)))) (lCons (vCall (vFn 2 [0, 1] dfl_part fn_part) (lCons (vUn gNeg (vV 2)) (lCons (vUn gNeg (vV 3)) (lNil)))) (lNil)))))) (sSeq (sIf (bOr (bCmp gNe (vCall gRepr (lCons (vV 5) (lNil))) (vCall gRepr (lCons (vBin gMul (vLst (lCons (vV 4) (lNil))) (vC (.int 3))) (lNil)))) (bNot (bOf (vCall (vFn 1 [0] [] fn_is_fraction) (lCons (vV 4) (lNil)))))) (sSeq (sRet (vC (.bl false))) (sNil)) (sNil)) (sSeq (sFor (iSeq (vCall (vFn 2 [0, 1] [] fn__law_things) (lCons (vV 0) (lCons (vV 4) (lNil))))) (.nm 6) inB) (sNil)))))))
theorem right_is : fn__law_right = runS 8 (sSeq (sFor (iRng (vC (.int 6))) (.nm 1) outB) (sSeq (sRet (vAnd (vBin gEq (vCall (vFn 1 [0, 1] dfl_part fn_part) (lCons (vC (.int 0)) (lNil))) (vTup (lCons (vC (.int 0)) (lCons (vC (.int 1)) (lNil))))) (vBin gEq (vCall (vFn 2 [0, 1] dfl_part fn_part) (lCons (vC (.int 0)) (lCons (vUn gNeg (vC (.int 7))) (lNil)))) (vTup (lCons (vC (.int 0)) (lCons (vC (.int 1)) (lNil))))))) (sNil))) := rfl
theorem part1 {f : FE} {E : Ev} {S S1 : Sto} {t : Int} (h : f E S = .ok (.int t) S1) : vCall (vFn 1 [0, 1] dfl_part fn_part) (lCons f lNil) E S = .ok (.tup [.int t, .int 1]) S1 := by
  refine call1 h ?_
  show fn_part [.int t, .int 1] S1 = _
  rw [part_ok S1 (by decide) (by decide), nn_one, dd_one]
theorem part2 {f f2 : FE} {E : Ev} {S S1 S2 : Sto} {t l : Int} (h : f E S = .ok (.int t) S1) (h2 : f2 E S1 = .ok (.int l) S2) (hl : l ≠ 0) (hl2 : l.natAbs < 2 ^ 200) : vCall (vFn 2 [0, 1] dfl_part fn_part) (lCons f (lCons f2 lNil)) E S = .ok (.tup [.int (nn t l), .int (dd t l)]) S2 := by
  refine call2 h h2 ?_
  show fn_part [.int t, .int l] S2 = _
  exact part_ok S2 hl hl2
theorem seq_for {it : FI} {p : Pat} {b R : FS} {E E1 : Ev} {S S1 S2 : Sto} {ds : List D} {src : Option Nat} (h : it E S = .ok ds src S1) (h2 : forS p b src ds ds E S1 = .nx E1 S2) : sSeq (sFor it p b) R E S = R E1 S2 := by
  simp [sSeq, sFor, h, h2, SRes.then]
theorem lst3 {f1 f2 f3 : FE} {x y z : D} {E : Ev} {S S1 S2 S3 : Sto} (h : f1 E S = .ok x S1) (h' : f2 E S1 = .ok y S2) (h'' : f3 E S2 = .ok z S3) : vLst (lCons f1 (lCons f2 (lCons f3 lNil))) E S = .ok (.ref S3.length) (S3 ++ [.lst [x, y, z]]) := by
  simp [vLst, lCons, lNil, h, h', h'', Res.bindL, ResL.bind, ResL.bindL]
theorem out_ok {S : Sto} {p : Nat} {g s : Int} (hp : S[p]? = some (pc g s)) (P0 : Pot g s) (a1 a2 a3 a4 a5 a6 a7 : Option D) :
    ∃ b2 b3 b4 b5 b6 b7 S', Fr p S S' ∧ outB [some (.ref p), a1, a2, a3, a4, a5, a6, a7] S = .nx [some (.ref p), a1, b2, b3, b4, b5, b6, b7] S' := by
  have lt := lt_of hp
  obtain ⟨t, S1, ht, F1, w1⟩ := whole_ok hp P0
  obtain ⟨g1, s1, P1, hp1⟩ := F1.pot lt
  obtain ⟨l0, S2, hl0, F2, w2⟩ := whole_ok hp1 P1
  have F2' := F1.trans lt F2
  let ec : Cell := .exc "NoPart" [("n", .int t)]
  let S3 : Sto := S2 ++ [ec]
  have F3 : Fr p S S3 := F2'.grow [ec]
  obtain ⟨l, hl, hlb, hset⟩ : ∃ l : Int, l ≠ 0 ∧ l.natAbs < 10 ^ 12 ∧ ∀ E : Ev, E[3]? = some (some (.int l0)) → vIf (bCmp gNe (vV 3) (vC (.int 0))) (vV 3) (vC (.int 1)) E S3 = .ok (.int l) S3 := by
    by_cases h : l0 = 0
    · exact ⟨1, by decide, by decide, fun E hE => by simp [vIf, bCmp, vV, vC, hE, ne_ii, h, Res.bindB, ResB.bind]⟩
    · exact ⟨l0, h, hl0, fun E hE => by simp [vIf, bCmp, vV, vC, hE, ne_ii, h, Res.bindB, ResB.bind]⟩
  let T := nn t l
  let L := dd t l
  have hT : T.natAbs < 10 ^ 12 := Nat.lt_of_le_of_lt (nn_le hl) ht
  have hL : L.natAbs < 10 ^ 12 := Nat.lt_of_le_of_lt (dd_le hl) hlb
  have hL1 : 1 ≤ L := dd_pos hl
  let due : D := .tup [.int T, .int L]
  let c3 : Cell := .lst [due, due, due]
  let S4 : Sto := S3 ++ [c3]
  let S5 : Sto := S4 ++ [.lst [due]]
  let S6 : Sto := S5 ++ [c3]
  have F6 : Fr p S S6 := ((F3.grow _).grow _).grow _
  obtain ⟨g6, s6, P6, hp6⟩ := F6.pot lt
  obtain ⟨n, S7, items, Hs, th, hn, F7, hHs, gr, good⟩ := things_ok hp6 P6 hT hL1 hL
  obtain ⟨b5, b6, b7, U, hfor⟩ := in_for gr (n := n) (items := items) (some (.ref p)) a1 (some (.int t)) (some (.int l)) (some due) items S7 (some (.ref S3.length)) a6 a7 good hHs hn
  refine ⟨some (.int t), some (.int l), some due, b5, b6, b7, S7 ++ U, (F6.trans lt F7).grow U, ?_⟩
  have e1 : ∀ (R : FS), sSeq (sPar 2 3 (lCons (vCall (vFn 1 [0] [] fn__law_whole) (lCons (vV 0) (lNil))) (lCons (vCall (vFn 1 [0] [] fn__law_whole) (lCons (vV 0) (lNil))) (lNil)))) R [some (.ref p), a1, a2, a3, a4, a5, a6, a7] S = R [some (.ref p), a1, some (.int t), some (.int l0), a4, a5, a6, a7] S2 := fun R =>
    par_ok (call1 (d := .ref p) rfl (fn1 w1)) (call1 (d := .ref p) rfl (fn1 w2))
  have tb : ∀ {S : Sto} {n : Nat}, S[n]? = some c3 → gRepr [.ref n] S = .ok (.str (PyData.list [.tuple [.int T, .int L], .tuple [.int T, .int L], .tuple [.int T, .int L]]).shown) S := fun {S n} h => by
    have one : Ti 1 84 (.tuple [.int T, .int L]) := ti_tup (tia_cons (ti_int (k := 0) hT) (tia_cons (ti_int hL) tia_nil))
    exact shows (k := 2) (by simp [toPD, h, c3, due, optAll]) (ti_lst (tia_cons one (tia_cons one (tia_cons one tia_nil)))) (by decide) (by decide)
  let E1 : Ev := [some (.ref p), a1, some (.int t), some (.int l0), a4, a5, a6, a7]
  have tt : ∀ S : Sto, vTup (lCons (vV 2) (lCons (vC (.int 1)) (lNil))) E1 S = .ok (.tup [.int t, .int 1]) S := fun S => by
    simp [vTup, lCons, lNil, vV, vC, E1, Res.bindL, ResL.bind, ResL.bindL]
  have c1 : bCmp gNe (vCall (vFn 1 [0, 1] dfl_part fn_part) (lCons (vV 2) (lNil))) (vTup (lCons (vV 2) (lCons (vC (.int 1)) (lNil)))) E1 S3 = .ok false S3 :=
    cmp_ok (part1 (t := t) rfl) (tt S3) (by rw [ne_tt]; simp)
  have r1 : vCall (vFn 1 [0] [] fn__law_refused) (lCons (vV 2) lNil) E1 S2 = .ok (.bl true) S3 := call1 (d := .int t) rfl (fn1 (refused_ok ht))
  let E2 : Ev := [some (.ref p), a1, some (.int t), some (.int l), some due, a5, a6, a7]
  have bl : l.natAbs < 2 ^ 200 := by omega
  have bt : t.natAbs < 2 ^ 200 := by omega
  have d4 : vCall (vFn 2 [0, 1] [] fn__law_reduced) (lCons (vV 2) (lCons (vV 3) lNil)) [some (.ref p), a1, some (.int t), some (.int l), a4, a5, a6, a7] S3 = .ok due S3 :=
    call2 (x := .int t) (y := .int l) rfl rfl (fn2 (reduced_ok S3 hl bt bl))
  have q1 : vCall (vFn 2 [0, 1] dfl_part fn_part) (lCons (vV 2) (lCons (vV 3) lNil)) E2 S3 = .ok due S3 := part2 (t := t) (l := l) rfl rfl hl bl
  have q2 : vCall (vFn 2 [0, 1] dfl_part fn_part) (lCons (vUn gNeg (vV 2)) (lCons (vUn gNeg (vV 3)) lNil)) E2 S3 = .ok due S3 := by
    rw [part2 (t := -t) (l := -l) (S1 := S3) (S2 := S3) rfl rfl (by omega) (by rw [Int.natAbs_neg]; exact bl), nn_neg hl, dd_neg hl]
  have d5 := lst3 q1 q1 q2
  let E3 : Ev := [some (.ref p), a1, some (.int t), some (.int l), some due, some (.ref S3.length), a6, a7]
  have v1 : vCall gRepr (lCons (vV 5) lNil) E3 S4 = .ok (.str (PyData.list [.tuple [.int T, .int L], .tuple [.int T, .int L], .tuple [.int T, .int L]]).shown) S4 := call1 (d := .ref S3.length) rfl (tb (get_new S3 c3))
  have v2 : vBin gMul (vLst (lCons (vV 4) (lNil))) (vC (.int 3)) E3 S4 = .ok (.ref S5.length) S6 := bin_ok (lst1 (d := due) rfl) rfl (mul_lst (xs := [due]) (get_new S4 _) (by decide) (by decide) (Nat.le_of_ble_eq_true rfl))
  have v3 : vCall gRepr (lCons (vBin gMul (vLst (lCons (vV 4) (lNil))) (vC (.int 3))) lNil) E3 S4 = .ok (.str (PyData.list [.tuple [.int T, .int L], .tuple [.int T, .int L], .tuple [.int T, .int L]]).shown) S6 := call1 v2 (tb (get_new S5 c3))
  have v4 : vCall (vFn 1 [0] [] fn_is_fraction) (lCons (vV 4) lNil) E3 S6 = .ok (.bl true) S6 := by
    refine call1 (d := due) rfl (fn1 ?_)
    have q := (frac_ints (n := T) (d := L) (S := S6) (by omega) (by omega)).1
    rw [gg_nf hl, decide_eq_true hL1] at q
    exact q
  have it : iSeq (vCall (vFn 2 [0, 1] [] fn__law_things) (lCons (vV 0) (lCons (vV 4) (lNil)))) E3 S6 = .ok items (some n) S7 := by
    have q : vCall (vFn 2 [0, 1] [] fn__law_things) (lCons (vV 0) (lCons (vV 4) (lNil))) E3 S6 = .ok (.ref n) S7 := call2 (x := .ref p) (y := due) rfl rfl (fn2 th)
    unfold iSeq
    rw [q]
    show itSeq (.ref n) S7 = _
    simp [itSeq, hn]
  refine (e1 _).trans ((seq_no (or_ok (not_of r1) (or_ok c1 c1))).trans ((seq_set (hset _ rfl)).trans ((seq_set d4).trans ((seq_set d5).trans ((seq_no (or_ok (cmp_ok v1 v3 same_str) (not_of v4))).trans ?_)))))
  exact seq_for it hfor
end P
namespace P
open PySem PySem.Spec PyProof.Rows L2 Z
theorem out_for (all : List D) : ∀ (rest : List D) (S : Sto) (p : Nat) (g s : Int) (a1 a2 a3 a4 a5 a6 a7 : Option D), S[p]? = some (pc g s) → Pot g s →
    ∃ b1 b2 b3 b4 b5 b6 b7 S', Fr p S S' ∧ forS (.nm 1) outB none all rest [some (.ref p), a1, a2, a3, a4, a5, a6, a7] S = .nx [some (.ref p), b1, b2, b3, b4, b5, b6, b7] S'
  | [], S, p, g, s, a1, a2, a3, a4, a5, a6, a7, hp, P0 => ⟨a1, a2, a3, a4, a5, a6, a7, S, Fr.self hp P0, by
      unfold forS
      rw [srcIf_none]⟩
  | d :: r, S, p, g, s, a1, a2, a3, a4, a5, a6, a7, hp, P0 => by
    obtain ⟨b2, b3, b4, b5, b6, b7, S1, F1, e1⟩ := out_ok hp P0 (some d) a2 a3 a4 a5 a6 a7
    obtain ⟨g1, s1, P1, hp1⟩ := F1.pot (lt_of hp)
    obtain ⟨c1, c2, c3, c4, c5, c6, c7, S2, F2, e2⟩ := out_for all r S1 p g1 s1 (some d) b2 b3 b4 b5 b6 b7 hp1 P1
    refine ⟨c1, c2, c3, c4, c5, c6, c7, S2, F1.trans (lt_of hp) F2, ?_⟩
    unfold forS
    rw [srcIf_none]
    have e0 : Pat.put (.nm 1) d [some (.ref p), a1, a2, a3, a4, a5, a6, a7] = some [some (.ref p), some d, a2, a3, a4, a5, a6, a7] := rfl
    rw [e0]
    simp only [e1, e2]
theorem and_ok {f1 f2 : FE} {E : Ev} {S S1 : Sto} {r : Res} (h : f1 E S = .ok (.bl true) S1) (h2 : f2 E S1 = r) : vAnd f1 f2 E S = r := by
  simp [vAnd, h, h2, Res.bind, truth]
theorem tup2 {f1 f2 : FE} {x y : D} {E : Ev} {S S1 S2 : Sto} (h : f1 E S = .ok x S1) (h' : f2 E S1 = .ok y S2) : vTup (lCons f1 (lCons f2 lNil)) E S = .ok (.tup [x, y]) S2 := by
  simp [vTup, lCons, lNil, h, h', Res.bindL, ResL.bind, ResL.bindL]
theorem right_ok {S : Sto} {p : Nat} {g s : Int} (hp : S[p]? = some (pc g s)) (P0 : Pot g s) : ∃ S', Fr p S S' ∧ fn__law_right [.ref p] S = .ok (.bl true) S' := by
  obtain ⟨b1, b2, b3, b4, b5, b6, b7, S1, F1, e1⟩ := out_for (rngD 0 6) (rngD 0 6) S p g s none none none none none none none hp P0
  refine ⟨S1, F1, ?_⟩
  rw [right_is]
  have it : iRng (vC (.int 6)) [some (.ref p), none, none, none, none, none, none, none] S = .ok (rngD 0 6) none S := rfl
  let E1 : Ev := [some (.ref p), b1, b2, b3, b4, b5, b6, b7]
  have z0 : nn 0 (-7) = 0 := by decide
  have z1 : dd 0 (-7) = 1 := by decide
  have t1 : vTup (lCons (vC (.int 0)) (lCons (vC (.int 1)) (lNil))) E1 S1 = .ok (.tup [.int 0, .int 1]) S1 := tup2 rfl rfl
  have q1 : vBin gEq (vCall (vFn 1 [0, 1] dfl_part fn_part) (lCons (vC (.int 0)) (lNil))) (vTup (lCons (vC (.int 0)) (lCons (vC (.int 1)) (lNil)))) E1 S1 = .ok (.bl true) S1 :=
    bin_ok (part1 (t := 0) rfl) t1 (by rw [eq_tt]; rfl)
  have q2 : vBin gEq (vCall (vFn 2 [0, 1] dfl_part fn_part) (lCons (vC (.int 0)) (lCons (vUn gNeg (vC (.int 7))) (lNil)))) (vTup (lCons (vC (.int 0)) (lCons (vC (.int 1)) (lNil)))) E1 S1 = .ok (.bl true) S1 :=
    bin_ok (part2 (t := 0) (l := -7) (S1 := S1) (S2 := S1) rfl rfl (by decide) (by decide)) t1 (by rw [z0, z1, eq_tt]; rfl)
  exact run_ret ((seq_for it e1).trans (one_ret (and_ok q1 q2)))
theorem lc_law (ns : List Int) (all : List D) (n : Nat) : ∀ (ks : List Int) (S : Sto) (j : Nat), (∀ k ∈ ks, 0 ≤ k ∧ k < 4) → j + ks.length < 1000 → S[n]? = some (.lst (List.replicate j (.bl true))) →
    ∃ S', S'[n]? = some (.lst (List.replicate (j + ks.length) (.bl true))) ∧ lcS (.nm 1) bTrue (vCall (vFn 1 [0] [] fn__law_right) (lCons (vCall (vFn 2 [0, 1] [] fn__law_pot) (lCons (vV 0) (lCons (vV 1) (lNil)))) (lNil))) none all n [some (.fl (ns.map .int)), none] (ks.map .int) S = .ok (.ref n) S'
  | [], S, j, _, _, hn => ⟨S, by simpa using hn, by
      show lcS _ _ _ _ _ _ _ [] S = _
      unfold lcS
      rw [srcIf_none]⟩
  | k :: r, S, j, hk, hl, hn => by
    obtain ⟨k0, k1⟩ := hk k List.mem_cons_self
    obtain ⟨g, s, P0, e1⟩ := pot_ok S ns k k0 k1
    obtain ⟨S1, F1, e2⟩ := right_ok (S := S ++ [pc g s]) (p := S.length) (get_new S _) P0
    have hn1 : S1[n]? = some (.lst (List.replicate j (.bl true))) := by
      rw [F1.at (by have := lt_of hn; simp; omega) (by have := lt_of hn; omega), List.getElem?_append_left (lt_of hn)]
      exact hn
    have hl2 : j + (r.length + 1) < 1000 := hl
    obtain ⟨S2, h2, e3⟩ := lc_law ns all n r (S1.set n (.lst (List.replicate j (.bl true) ++ [.bl true]))) (j + 1) (fun x hx => hk x (List.mem_cons_of_mem _ hx)) (by omega) (by
      rw [List.getElem?_set_self (lt_of hn1), ← List.replicate_succ'])
    refine ⟨S2, by rw [h2]; simp only [List.length_cons]; rw [Nat.add_assoc, Nat.add_comm 1], ?_⟩
    show lcS _ _ _ _ _ _ _ (.int k :: r.map .int) S = _
    unfold lcS
    rw [srcIf_none]
    have e0 : Pat.put (.nm 1) (.int k) [some (.fl (ns.map .int)), none] = some [some (.fl (ns.map .int)), some (.int k)] := rfl
    have e4 : vCall (vFn 1 [0] [] fn__law_right) (lCons (vCall (vFn 2 [0, 1] [] fn__law_pot) (lCons (vV 0) (lCons (vV 1) (lNil)))) (lNil)) [some (.fl (ns.map .int)), some (.int k)] S = .ok (.bl true) S1 :=
      call1 (call2 (x := .fl (ns.map .int)) (y := .int k) rfl rfl (fn2 e1)) (fn1 e2)
    rw [e0]
    have e5 : bTrue [some (.fl (ns.map .int)), some (.int k)] S = .ok true S := rfl
    simp only [e5, e4, hn1]
    rw [if_pos (by simp; omega)]
    exact e3
theorem bls_rep : ∀ n : Nat, blsOf (List.replicate n (.bl true)) = some (List.replicate n true)
  | 0 => rfl
  | n + 1 => by
    rw [List.replicate_succ]
    simp [blsOf, bls_rep n, List.replicate_succ]
theorem math (ns : List Int) (h : ns.length ≤ 63) : ∃ S, fn_law [.fl (ns.map .int)] [] = .ok (.bl true) S := by
  let m : Int := if (if (ns.length : Int) < 4 then (ns.length : Int) else 4) > 1 then (if (ns.length : Int) < 4 then (ns.length : Int) else 4) else 1
  have hm : m = if (if (ns.length : Int) < 4 then (ns.length : Int) else 4) > 1 then (if (ns.length : Int) < 4 then (ns.length : Int) else 4) else 1 := rfl
  have m0 : 1 ≤ m := by rw [hm]; split <;> omega
  have m4 : m ≤ 4 := by rw [hm]; split <;> (try split) <;> omega
  obtain ⟨S', hS, e⟩ := lc_law ns (rngD 0 m.toNat) 0 ((List.range m.toNat).map fun (i : Nat) => (0 + (i : Int))) ([] ++ [.lst []]) 0 (fun k hk => by
    obtain ⟨i, hi, rfl⟩ := List.mem_map.mp hk
    have := List.mem_range.mp hi
    omega) (by simp; omega) rfl
  refine ⟨S', run_ret ?_⟩
  have it : iRng (vCall gMax2 (lCons (vC (.int 1)) (lCons (vCall gMin2 (lCons (vC (.int 4)) (lCons (vCall gLen (lCons (vV 0) (lNil))) (lNil)))) (lNil)))) [some (.fl (ns.map .int)), none] [] = .ok (rngD 0 m.toNat) none [] := by
    have q : vCall gMax2 (lCons (vC (.int 1)) (lCons (vCall gMin2 (lCons (vC (.int 4)) (lCons (vCall gLen (lCons (vV 0) (lNil))) (lNil)))) (lNil))) [some (.fl (ns.map .int)), none] [] = .ok (.int m) [] := by
      refine call2 (x := .int 1) rfl (call2 (x := .int 4) rfl (call1 (d := .fl (ns.map .int)) (r := .ok (.int ns.length) []) rfl (by simp [gLen, seqOf])) (by simp only [gMin2]; rfl)) (by simp only [gMax2]; rfl)
    unfold iRng
    rw [q]
    show itR1 (.int m) [] = _
    simp only [itR1]
    rw [if_pos (by omega)]
  have hl : vLc (iRng (vCall gMax2 (lCons (vC (.int 1)) (lCons (vCall gMin2 (lCons (vC (.int 4)) (lCons (vCall gLen (lCons (vV 0) (lNil))) (lNil)))) (lNil))))) (.nm 1) [1] (bTrue) (vCall (vFn 1 [0] [] fn__law_right) (lCons (vCall (vFn 2 [0, 1] [] fn__law_pot) (lCons (vV 0) (lCons (vV 1) (lNil)))) (lNil))) [some (.fl (ns.map .int)), none] [] = .ok (.ref 0) S' := by
    unfold vLc
    rw [it]
    have e2 : rngD 0 m.toNat = ((List.range m.toNat).map fun (i : Nat) => (0 + (i : Int))).map D.int := by
      unfold rngD
      rw [List.map_map]
      rfl
    rw [← e2] at e
    exact e
  refine one_ret (call1 hl ?_)
  simp [gAll, Z.listOf, hS, bls_rep]
end P
open PySem PySem.W PySem.Calls PyProof.Rows
theorem PySem.Challenge.cw_lateshares_k01_fractions_of_anything_holds : PySem.Challenge.rw_lateshares_k01_fractions_of_anything.Holds := by
  w_on; o_law
  refine HandSHeadRun.head_imp (r := P.Rw) (q := P.vw) (H := P.hk) (ob := P.ob) (M := 6000) (loose := P.loose) (d := HandSHeadRun.topDef P.Rw.prog 22) (kwd := []) P.ob_eq
    P.run (by kernel_rfl) (by kernel_rfl) (by kernel_rfl) (by rfl) (by first | assumption | decide +kernel) (by decide +kernel) ⟨rfl, rfl, rfl, rfl, rfl, by decide +kernel⟩ ?hw ?hc
  case hw => w_witness2
  case hc =>
    refine Z.walk_ofG (l := PySem.Challenge.rw_lateshares_k01_fractions_of_anything) (n := 63) (k := 6) (x := "_law_script") (fn := P.fn_law) rfl (by decide) (by kernel_rfl) ⟨rfl, by decide, by decide⟩ ?F P.math
    intro w mg fa h Y G hmg0
    obtain ⟨K, KX, c⟩ := Y
    have hmg : mg ("law" : PySem.Str) = some (.ref fa) := by
      have e : (HandSHeadRun.topDef P.Rw.prog 22).name = ("law" : PySem.Str) := by kernel_rfl
      rw [← e]
      exact hmg0
    obtain ⟨fd, hb, hF⟩ := P.law_facts (P := (PySem.Challenge.rw_lateshares_k01_fractions_of_anything).prog) (w := w) KX G hmg c
    exact ⟨K, fd, KX, hb, fun base _ _ => hF base⟩
