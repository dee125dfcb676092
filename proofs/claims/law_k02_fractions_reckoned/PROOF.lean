import PyProof.Rows.All
import Wide.All
import OpenK.AllK
import Wide.FinOn
import HandS.ForMost
import HandS.Exc
import HandS.WordsExc
import HandS.Defaults
import HandS.Wide
import HandS.IsInst
import HandS.Flow
import HandS.HeadHook2
import HandS.TupAny
import HandS.Gcd
import HandS.StrMore
import HandS.Text
import HandS.RaiseMore
import HandS.Iter
import HandS.ExcField
import HandS.ExcInit
import HandS.ExcIs
import HandS.SetFor
import KE.KExcIs
import KE.KTryMore
import HandS.Deep
import KE.KStateDown
import HandS.Head0
import HandS.Head1
import HandS.Head2
import HandS.Head3
import HandS.HeadEnd
import HandS.HeadHook1
import PySem.Challenge.RW_lateshares_k02_fractions_reckoned
set_option Elab.async false
set_option linter.all false
set_option maxRecDepth 100000
set_option maxHeartbeats 4000000
namespace Z
open PySem PySem.Spec PyProof.Rows L2

/-! ## data, store, results -/
inductive D where
  | non | bl (b : Bool) | int (i : Int) | str (x : Str)
  | tup (xs : List D) | fl (xs : List D) | emp | ref (n : Nat)

inductive Cell where
  | lst (xs : List D)
  | exc (c : Str) (fs : List (Str × D))
  | ins (c : Str) (fs : List (Str × D))

abbrev Sto := List Cell
abbrev Ev := List (Option D)

inductive Res where
  | ok (d : D) (S : Sto)
  | exc (c : Str) (fs : List (Str × D)) (S : Sto)
  | bad
inductive ResL where
  | ok (ds : List D) (S : Sto)
  | exc (c : Str) (fs : List (Str × D)) (S : Sto)
  | bad
inductive ResB where
  | ok (b : Bool) (S : Sto)
  | exc (c : Str) (fs : List (Str × D)) (S : Sto)
  | bad
inductive SRes where
  | nx (E : Ev) (S : Sto)
  | brk (E : Ev) (S : Sto)
  | cnt (E : Ev) (S : Sto)
  | ret (d : D) (S : Sto)
  | exc (c : Str) (fs : List (Str × D)) (E : Ev) (S : Sto)
  | bad

abbrev FE := Ev → Sto → Res
abbrev FL := Ev → Sto → ResL
abbrev FB := Ev → Sto → ResB
abbrev FS := Ev → Sto → SRes

/-! ## how data stand in the heap -/
/-- a list that nothing writes: the argument's, or one of the written part -/
def SqF (K : PySem.W.Frag) (H : Hp) (a : Addr) (xs : List V) : Prop := (∃ o, H a = some (.frz o (.lst xs))) ∨ SqL K (fun _ => none) a xs
theorem SqF.sq {K : PySem.W.Frag} {H : Hp} {a : Addr} {xs : List V} (h : SqF K H a xs) : SqL K H a xs := by
  rcases h with h | (h | ⟨o, h⟩) | h
  · exact .inl (.inr h)
  · cases h
  · cases h
  · exact .inr h

section
variable (K : PySem.W.Frag) (H : Hp) (m : List Addr)
mutual
inductive RV : D → V → Prop where
  | non : RV .non .non
  | bl (b : Bool) : RV (.bl b) (.bl b)
  | int (i : Int) : RV (.int i) (.int i)
  | str (x : Str) : RV (.str x) (.str x)
  | ref {n : Nat} {a : Addr} : m[n]? = some a → RV (.ref n) (.ref a)
  | tup {a : Addr} {ds : List D} {xs : List V} : SqT K H a xs → RVs ds xs → RV (.tup ds) (.ref a)
  | fl {a : Addr} {ds : List D} {xs : List V} : SqF K H a xs → RVs ds xs → RV (.fl ds) (.ref a)
  | emp {a : Addr} : H a = some (.dK []) → RV .emp (.ref a)
inductive RVs : List D → List V → Prop where
  | nil : RVs [] []
  | cons {d : D} {v : V} {ds : List D} {vs : List V} : RV d v → RVs ds vs → RVs (d :: ds) (v :: vs)
end
end

/-- the later world knows all that the earlier one knew -/
structure Le (K : PySem.W.Frag) (H : Hp) (m : List Addr) (H' : Hp) (m' : List Addr) : Prop where
  m : ∀ (n : Nat) (a : Addr), m[n]? = some a → m'[n]? = some a
  t : ∀ a xs, SqT K H a xs → SqT K H' a xs
  f : ∀ a xs, SqF K H a xs → SqF K H' a xs
  e : ∀ a, H a = some (.dK []) → H' a = some (.dK [])
theorem Le.refl {K H m} : Le K H m H m := ⟨fun _ _ h => h, fun _ _ h => h, fun _ _ h => h, fun _ h => h⟩
theorem Le.trans {K H m H1 m1 H2 m2} (a : Le K H m H1 m1) (b : Le K H1 m1 H2 m2) : Le K H m H2 m2 :=
  ⟨fun n x h => b.m n x (a.m n x h), fun n x h => b.t n x (a.t n x h), fun n x h => b.f n x (a.f n x h), fun x h => b.e x (a.e x h)⟩

mutual
theorem RV.up {K H m H' m'} (l : Le K H m H' m') : ∀ {d : D} {v : V}, RV K H m d v → RV K H' m' d v
  | _, _, .non => .non
  | _, _, .bl b => .bl b
  | _, _, .int b => .int b
  | _, _, .str b => .str b
  | _, _, .ref h => .ref (l.m _ _ h)
  | _, _, .tup h t => .tup (l.t _ _ h) (RVs.up l t)
  | _, _, .fl h t => .fl (l.f _ _ h) (RVs.up l t)
  | _, _, .emp h => .emp (l.e _ h)
theorem RVs.up {K H m H' m'} (l : Le K H m H' m') : ∀ {d : List D} {v : List V}, RVs K H m d v → RVs K H' m' d v
  | _, _, .nil => .nil
  | _, _, .cons h t => .cons (RV.up l h) (RVs.up l t)
end
theorem RVs.len {K H m} : ∀ {ds : List D} {vs : List V}, RVs K H m ds vs → ds.length = vs.length
  | _, _, .nil => rfl
  | _, _, .cons _ t => by simp [RVs.len t]
theorem RVs.app {K H m} : ∀ {ds es : List D} {vs us : List V}, RVs K H m ds vs → RVs K H m es us → RVs K H m (ds ++ es) (vs ++ us)
  | _, _, _, _, .nil, h => h
  | _, _, _, _, .cons r t, h => .cons r (RVs.app t h)
theorem RVs.take {K H m} : ∀ {ds : List D} {vs : List V} (n : Nat), RVs K H m ds vs → RVs K H m (ds.take n) (vs.take n)
  | _, _, 0, _ => .nil
  | _, _, _ + 1, .nil => .nil
  | _, _, n + 1, .cons r t => .cons r (RVs.take n t)
theorem RVs.drop {K H m} : ∀ {ds : List D} {vs : List V} (n : Nat), RVs K H m ds vs → RVs K H m (ds.drop n) (vs.drop n)
  | _, _, 0, r => r
  | _, _, _ + 1, .nil => .nil
  | _, _, n + 1, .cons _ t => RVs.drop n t
theorem RVs.at {K H m} : ∀ {ds : List D} {vs : List V} {i : Nat} {d : D}, RVs K H m ds vs → ds[i]? = some d → ∃ v, vs[i]? = some v ∧ RV K H m d v
  | _, _, i, _, .nil, e => by simp at e
  | _, _, 0, _, .cons r _, e => by simp at e; subst e; exact ⟨_, rfl, r⟩
  | _, _, i + 1, _, .cons _ t, e => by
    obtain ⟨v, h1, h2⟩ := RVs.at (i := i) t (by simpa using e)
    exact ⟨v, by simpa using h1, h2⟩
theorem RVs.at' {K H m} : ∀ {ds : List D} {vs : List V} {i : Nat} {v : V}, RVs K H m ds vs → vs[i]? = some v → ∃ d, ds[i]? = some d ∧ RV K H m d v
  | _, _, i, _, .nil, e => by simp at e
  | _, _, 0, _, .cons r _, e => by simp at e; subst e; exact ⟨_, rfl, r⟩
  | _, _, i + 1, _, .cons _ t, e => by
    obtain ⟨v, h1, h2⟩ := RVs.at' (i := i) t (by simpa using e)
    exact ⟨v, by simpa using h1, h2⟩
theorem RVs.set {K H m} {d : D} {v : V} (r : RV K H m d v) : ∀ {ds : List D} {vs : List V} (i : Nat), RVs K H m ds vs → RVs K H m (ds.set i d) (vs.set i v)
  | _, _, _, .nil => .nil
  | _, _, 0, .cons _ t => .cons r t
  | _, _, i + 1, .cons q t => .cons q (RVs.set r i t)
theorem RVs.rev {K H m} : ∀ {ds : List D} {vs : List V}, RVs K H m ds vs → RVs K H m ds.reverse vs.reverse
  | _, _, .nil => .nil
  | _, _, .cons r t => by simpa using (RVs.rev t).app (.cons r .nil)

/-- fields by name -/
def RFs (K : PySem.W.Frag) (H : Hp) (m : List Addr) : List (Str × D) → List (Str × V) → Prop :=
  Paired fun p q => p.1 = q.1 ∧ RV K H m p.2 q.2
theorem RFs.up {K H m H' m'} (l : Le K H m H' m') {a b} (h : RFs K H m a b) : RFs K H' m' a b := Paired.mapP h fun _ _ z => ⟨z.1, z.2.up l⟩

/-- an exception in the air -/
def RX (K : PySem.W.Frag) (H : Hp) (m : List Addr) (c : Str) (fs : List (Str × D)) (cls : Value) (dd : Option Addr) : Prop :=
  cls = .ref (He.ga K c) ∧ ((fs = [] ∧ dd = none) ∨ ∃ d gs, dd = some d ∧ H d = some (.xd gs) ∧ RFs K H m fs gs)

/-- an exception that a name holds -/
def exv (cls : Value) (dd : Option Addr) (a : Addr) : HO := .ext fun h => ∃ (oe : Obj) (vs : Array Value), h.get? a = some oe ∧ Zc cls dd oe ∧ oe.data = .fields vs

def RC (K : PySem.W.Frag) (H : Hp) (m : List Addr) : Cell → Addr → Prop
  | .lst ds, a => ∃ vs, H a = some (.lst vs) ∧ RVs K H m ds vs
  | .exc c fs, a => ∃ dd, H a = some (exv (.ref (He.ga K c)) dd a) ∧ RX K H m c fs (.ref (He.ga K c)) dd
  | .ins c fs, a => ∃ dx gs, H a = some (.ins (He.ga K c) dx gs) ∧ RFs K H m fs gs

structure RS (K : PySem.W.Frag) (H : Hp) (m : List Addr) (S : Sto) : Prop where
  len : m.length = S.length
  inj : ∀ (i j : Nat) a, m[i]? = some a → m[j]? = some a → i = j
  at_ : ∀ (i : Nat) c, S[i]? = some c → ∃ a, m[i]? = some a ∧ RC K H m c a

structure RE (K : PySem.W.Frag) (H : Hp) (m : List Addr) (E : Ev) (σ : L2.St) : Prop where
  len : E.length = σ.length
  at_ : ∀ (i : Nat) d, E[i]? = some (some d) → ∃ v, σ[i]? = some (some v) ∧ RV K H m d v
theorem RE.up {K H m H' m' E σ} (l : Le K H m H' m') (h : RE K H m E σ) : RE K H' m' E σ :=
  ⟨h.len, fun i d e => let ⟨v, h1, h2⟩ := h.at_ i d e; ⟨v, h1, h2.up l⟩⟩
theorem RE.set {K H m E σ} (h : RE K H m E σ) (i : Nat) {d : D} {v : V} (r : RV K H m d v) : RE K H m (E.set i (some d)) (σ.set i (some v)) := by
  refine ⟨by simp [h.len], fun j e hj => ?_⟩
  by_cases hij : i = j
  · subst hij
    by_cases hl : i < E.length
    · rw [List.getElem?_set_self hl] at hj
      cases hj
      exact ⟨v, by rw [List.getElem?_set_self (h.len ▸ hl)], r⟩
    · rw [List.getElem?_eq_none (by simpa using hl)] at hj
      cases hj
  · rw [List.getElem?_set_ne hij] at hj
    obtain ⟨w, h1, h2⟩ := h.at_ j e hj
    exact ⟨w, by rw [List.getElem?_set_ne hij]; exact h1, h2⟩
theorem RE.unset {K H m E σ} (h : RE K H m E σ) (i : Nat) : RE K H m (E.set i none) (σ.set i none) := by
  refine ⟨by simp [h.len], fun j e hj => ?_⟩
  by_cases hij : i = j
  · subst hij
    by_cases hl : i < E.length
    · rw [List.getElem?_set_self hl] at hj
      cases hj
    · rw [List.getElem?_eq_none (by simpa using hl)] at hj
      cases hj
  · rw [List.getElem?_set_ne hij] at hj
    obtain ⟨w, h1, h2⟩ := h.at_ j e hj
    exact ⟨w, by rw [List.getElem?_set_ne hij]; exact h1, h2⟩

/-! ## the world grows -/
/-- what a store or a new object leaves of tuples and frozen lists -/
theorem Le.put {K H m} {p : Addr} {o : HO} (h1 : ∀ xs, H p ≠ some (.tup xs)) (h2 : ∀ ob u, H p ≠ some (.frz ob u)) (h3 : H p ≠ some (.dK [])) : Le K H m (upd H p o) m := by
  have ne1 : ∀ b xs, H b = some (.tup xs) → b ≠ p := fun b xs e z => by subst z; exact h1 _ e
  have ne2 : ∀ b ob u, H b = some (.frz ob u) → b ≠ p := fun b ob u e z => by subst z; exact h2 _ _ e
  refine ⟨fun _ _ h => h, fun a xs h => ?_, fun a xs h => ?_, fun a h => by
    have na : a ≠ p := fun z => by subst z; exact h3 h
    rw [upd_ne na]; exact h⟩
  · rcases h with (h | ⟨ob, h⟩) | h
    · exact .inl (.inl (by rw [upd_ne (ne1 _ _ h)]; exact h))
    · exact .inl (.inr ⟨ob, by rw [upd_ne (ne2 _ _ _ h)]; exact h⟩)
    · exact .inr h
  · rcases h with ⟨ob, h⟩ | h
    · exact .inl ⟨ob, by rw [upd_ne (ne2 _ _ _ h)]; exact h⟩
    · exact .inr h
theorem Le.new {K H m} {p : Addr} {o : HO} (h : H p = none) : Le K H m (upd H p o) m :=
  Le.put (fun _ e => by rw [h] at e; cases e) (fun _ _ e => by rw [h] at e; cases e) (fun e => by rw [h] at e; cases e)
theorem Le.more {K H m} {p : Addr} : Le K H m H (m ++ [p]) :=
  ⟨fun n a h => by rw [List.getElem?_append_left (List.getElem?_eq_some_iff.mp h).1]; exact h, fun _ _ h => h, fun _ _ h => h, fun _ h => h⟩

theorem RX.up {K H m H' m' c fs cls dd} (l : Le K H m H' m') (k : ∀ d gs, H d = some (.xd gs) → H' d = some (.xd gs)) (h : RX K H m c fs cls dd) : RX K H' m' c fs cls dd := by
  obtain ⟨e, h⟩ := h
  refine ⟨e, ?_⟩
  rcases h with h | ⟨d, gs, h1, h2, h3⟩
  · exact .inl h
  · exact .inr ⟨d, gs, h1, k _ _ h2, h3.up l⟩
/-- a new object that no cell speaks of -/
theorem RS.side {K H m S} {p : Addr} {o : HO} (h : RS K H m S) (hp : H p = none) : RS K (upd H p o) m S := by
  have l : Le K H m (upd H p o) m := Le.new hp
  have ne : ∀ {b : Addr} {u : HO}, H b = some u → upd H p o b = some u := fun {b u} e => by
    rw [upd_ne (ne_of_none e hp)]; exact e
  refine ⟨h.len, h.inj, fun i c e => ?_⟩
  obtain ⟨a, h1, h2⟩ := h.at_ i c e
  refine ⟨a, h1, ?_⟩
  cases c with
  | lst ds => obtain ⟨vs, h3, h4⟩ := h2; exact ⟨vs, ne h3, h4.up l⟩
  | exc c fs => obtain ⟨dd, h3, h4⟩ := h2; exact ⟨dd, ne h3, h4.up l fun _ _ z => ne z⟩
  | ins c fs => obtain ⟨dx, gs, h3, h4⟩ := h2; exact ⟨dx, gs, ne h3, h4.up l⟩
theorem RS.bnd {K H m S} (h : RS K H m S) {i : Nat} {a : Addr} (e : m[i]? = some a) : ∃ u, H a = some u := by
  have hi : i < S.length := by rw [← h.len]; exact (List.getElem?_eq_some_iff.mp e).1
  obtain ⟨b, h1, h2⟩ := h.at_ i S[i] (List.getElem?_eq_getElem hi)
  rw [e] at h1
  cases h1
  generalize S[i] = c at h2
  cases c with
  | lst ds => obtain ⟨vs, h3, h4⟩ := h2; exact ⟨_, h3⟩
  | exc c fs => obtain ⟨dd, h3, h4⟩ := h2; exact ⟨_, h3⟩
  | ins c fs => obtain ⟨dx, gs, h3, h4⟩ := h2; exact ⟨_, h3⟩
/-- a new cell -/
theorem RS.push {K H m S} {p : Addr} {c : Cell} (h : RS K H m S) (hp : ∀ i : Nat, m[i]? ≠ some p) (hc : RC K H (m ++ [p]) c p) : RS K H (m ++ [p]) (S ++ [c]) := by
  have l : Le K H m H (m ++ [p]) := Le.more
  refine ⟨by simp [h.len], fun i j a h1 h2 => ?_, fun i d e => ?_⟩
  · by_cases hi : i < m.length
    · rw [List.getElem?_append_left hi] at h1
      by_cases hj : j < m.length
      · rw [List.getElem?_append_left hj] at h2
        exact h.inj i j a h1 h2
      · rw [List.getElem?_append_right (Nat.le_of_not_lt hj)] at h2
        have : a = p := by
          have := List.mem_of_getElem? h2
          simpa using this
        subst this
        exact absurd h1 (hp i)
    · rw [List.getElem?_append_right (Nat.le_of_not_lt hi)] at h1
      have ha : a = p := by
        have := List.mem_of_getElem? h1
        simpa using this
      subst ha
      by_cases hj : j < m.length
      · rw [List.getElem?_append_left hj] at h2
        exact absurd h2 (hp j)
      · rw [List.getElem?_append_right (Nat.le_of_not_lt hj)] at h2
        have e1 := (List.getElem?_eq_some_iff.mp h1).1
        have e2 := (List.getElem?_eq_some_iff.mp h2).1
        simp at e1 e2
        omega
  · by_cases hi : i < S.length
    · rw [List.getElem?_append_left hi] at e
      obtain ⟨a, h1, h2⟩ := h.at_ i d e
      refine ⟨a, l.m _ _ h1, ?_⟩
      cases d with
      | lst ds => obtain ⟨vs, h3, h4⟩ := h2; exact ⟨vs, h3, h4.up l⟩
      | exc c fs => obtain ⟨dd, h3, h4⟩ := h2; exact ⟨dd, h3, h4.up l fun _ _ z => z⟩
      | ins c fs => obtain ⟨dx, gs, h3, h4⟩ := h2; exact ⟨dx, gs, h3, h4.up l⟩
    · rw [List.getElem?_append_right (Nat.le_of_not_lt hi)] at e
      have e1 := (List.getElem?_eq_some_iff.mp e).1
      have e2 : i = S.length := by simp at e1; omega
      subst e2
      simp at e
      subst e
      exact ⟨p, by rw [← h.len]; simp, hc⟩
theorem RS.newp {K H m S} (h : RS K H m S) {p : Addr} (hp : H p = none) (i : Nat) : m[i]? ≠ some p := fun e => by
  obtain ⟨u, hu⟩ := h.bnd e
  rw [hp] at hu
  cases hu
theorem RS.alloc {K H m S} {p : Addr} {ds : List D} {vs : List V} (h : RS K H m S) (hp : H p = none) (r : RVs K H m ds vs) :
    Le K H m (upd H p (.lst vs)) (m ++ [p]) ∧ RS K (upd H p (.lst vs)) (m ++ [p]) (S ++ [.lst ds]) := by
  have l : Le K H m (upd H p (.lst vs)) (m ++ [p]) := (Le.new hp).trans Le.more
  exact ⟨l, (h.side hp).push (h.newp hp) ⟨vs, upd_same, r.up l⟩⟩
/-- a list is written -/
theorem RS.write {K H m S} {i : Nat} {a : Addr} {ds es : List D} {vs us : List V} (h : RS K H m S) (hi : S[i]? = some (.lst ds)) (ha : m[i]? = some a) (hv : H a = some (.lst vs)) (r : RVs K H m es us) :
    Le K H m (upd H a (.lst us)) m ∧ RS K (upd H a (.lst us)) m (S.set i (.lst es)) := by
  have l : Le K H m (upd H a (.lst us)) m := Le.put (fun _ e => by rw [hv] at e; cases e) (fun _ _ e => by rw [hv] at e; cases e) (fun e => by rw [hv] at e; cases e)
  refine ⟨l, by simpa using h.len, h.inj, fun j c e => ?_⟩
  by_cases hij : i = j
  · subst hij
    rw [List.getElem?_set_self (List.getElem?_eq_some_iff.mp hi).1] at e
    cases e
    exact ⟨a, ha, us, upd_same, r.up l⟩
  · rw [List.getElem?_set_ne hij] at e
    obtain ⟨b, h1, h2⟩ := h.at_ j c e
    have nba : b ≠ a := fun z => hij (h.inj i j a ha (z ▸ h1))
    refine ⟨b, h1, ?_⟩
    have xd : ∀ d gs, H d = some (.xd gs) → upd H a (.lst us) d = some (.xd gs) := fun d gs z => by
      rw [upd_ne (ne_of z hv (by intro q; cases q))]; exact z
    cases c with
    | lst ds => obtain ⟨vs, h3, h4⟩ := h2; exact ⟨vs, by rw [upd_ne nba]; exact h3, h4.up l⟩
    | exc c fs => obtain ⟨dd, h3, h4⟩ := h2; exact ⟨dd, by rw [upd_ne nba]; exact h3, h4.up l xd⟩
    | ins c fs => obtain ⟨dx, gs, h3, h4⟩ := h2; exact ⟨dx, gs, by rw [upd_ne nba]; exact h3, h4.up l⟩
/-- the list at a reference -/
theorem RS.list {K H m S} {n : Nat} {ds : List D} {v : V} (h : RS K H m S) (e : S[n]? = some (.lst ds)) (r : RV K H m (.ref n) v) :
    ∃ a vs, v = .ref a ∧ m[n]? = some a ∧ H a = some (.lst vs) ∧ RVs K H m ds vs := by
  cases r with
  | ref hm =>
    obtain ⟨a, h1, vs, h2, h3⟩ := h.at_ n _ e
    rw [hm] at h1
    cases h1
    exact ⟨_, vs, rfl, hm, h2, h3⟩
end Z
namespace Z
open PySem PySem.Spec PyProof.Rows L2

/-! ## what is wanted behind a result -/
def PV (K : PySem.W.Frag) (W : WX) (H : Hp) (m : List Addr) (σ : L2.St) (r : Res) (Q : VK) : Prop :=
  match r with
  | .ok d S => ∀ H' m' v, Le K H m H' m' → RS K H' m' S → RV K H' m' d v → Q v H'
  | .exc c fs S => ∀ H' m' cls dd, Le K H m H' m' → RS K H' m' S → RX K H' m' c fs cls dd → W cls dd σ H'
  | .bad => False
def PL (K : PySem.W.Frag) (W : WX) (H : Hp) (m : List Addr) (σ : L2.St) (r : ResL) (Q : List V → Hp → Prop) : Prop :=
  match r with
  | .ok ds S => ∀ H' m' vs, Le K H m H' m' → RS K H' m' S → RVs K H' m' ds vs → Q vs H'
  | .exc c fs S => ∀ H' m' cls dd, Le K H m H' m' → RS K H' m' S → RX K H' m' c fs cls dd → W cls dd σ H'
  | .bad => False
def PB (K : PySem.W.Frag) (W : WX) (H : Hp) (m : List Addr) (σ : L2.St) (r : ResB) (Q : Bool → Hp → Prop) : Prop :=
  match r with
  | .ok b S => ∀ H' m', Le K H m H' m' → RS K H' m' S → Q b H'
  | .exc c fs S => ∀ H' m' cls dd, Le K H m H' m' → RS K H' m' S → RX K H' m' c fs cls dd → W cls dd σ H'
  | .bad => False
section
variable {K : PySem.W.Frag} {W : WX} {H H1 : Hp} {m m1 : List Addr} {σ : L2.St}
theorem PV.re {r : Res} {Q : VK} (l : Le K H m H1 m1) (h : PV K W H m σ r Q) : PV K W H1 m1 σ r Q := by
  cases r with
  | ok d S => exact fun H' m' v l' => h H' m' v (l.trans l')
  | exc c fs S => exact fun H' m' c d l' => h H' m' c d (l.trans l')
  | bad => exact h
theorem PL.re {r : ResL} {Q : List V → Hp → Prop} (l : Le K H m H1 m1) (h : PL K W H m σ r Q) : PL K W H1 m1 σ r Q := by
  cases r with
  | ok d S => exact fun H' m' v l' => h H' m' v (l.trans l')
  | exc c fs S => exact fun H' m' c d l' => h H' m' c d (l.trans l')
  | bad => exact h
theorem PB.re {r : ResB} {Q : Bool → Hp → Prop} (l : Le K H m H1 m1) (h : PB K W H m σ r Q) : PB K W H1 m1 σ r Q := by
  cases r with
  | ok d S => exact fun H' m' l' => h H' m' (l.trans l')
  | exc c fs S => exact fun H' m' c d l' => h H' m' c d (l.trans l')
  | bad => exact h
end
/-- an expression's, an argument list's, a test's reading by its function -/
def tE (K : PySem.W.Frag) (W : WX) (f : FE) : L2.TE := fun σ H Q => ∃ m E S, RE K H m E σ ∧ RS K H m S ∧ PV K W H m σ (f E S) Q
def tL (K : PySem.W.Frag) (W : WX) (f : FL) : TA := fun σ H Q => ∃ m E S, RE K H m E σ ∧ RS K H m S ∧ PL K W H m σ (f E S) Q
def tT (K : PySem.W.Frag) (W : WX) (f : FB) : TT := fun σ H Q => ∃ m E S, RE K H m E σ ∧ RS K H m S ∧ PB K W H m σ (f E S) Q

/-! ## sequences -/
def Res.bind (r : Res) (k : D → Sto → Res) : Res := match r with
  | .ok d S => k d S
  | .exc c fs S => .exc c fs S
  | .bad => .bad
def Res.bindL (r : Res) (k : D → Sto → ResL) : ResL := match r with
  | .ok d S => k d S
  | .exc c fs S => .exc c fs S
  | .bad => .bad
def Res.bindB (r : Res) (k : D → Sto → ResB) : ResB := match r with
  | .ok d S => k d S
  | .exc c fs S => .exc c fs S
  | .bad => .bad
def ResL.bind (r : ResL) (k : List D → Sto → Res) : Res := match r with
  | .ok d S => k d S
  | .exc c fs S => .exc c fs S
  | .bad => .bad
def ResL.bindL (r : ResL) (k : List D → Sto → ResL) : ResL := match r with
  | .ok d S => k d S
  | .exc c fs S => .exc c fs S
  | .bad => .bad
def ResB.bind (r : ResB) (k : Bool → Sto → Res) : Res := match r with
  | .ok d S => k d S
  | .exc c fs S => .exc c fs S
  | .bad => .bad
def ResB.bindB (r : ResB) (k : Bool → Sto → ResB) : ResB := match r with
  | .ok d S => k d S
  | .exc c fs S => .exc c fs S
  | .bad => .bad
@[simp] theorem Res.bind_ok {d S} {k : D → Sto → Res} : (Res.ok d S).bind k = k d S := rfl
@[simp] theorem Res.bind_exc {c fs S} {k : D → Sto → Res} : (Res.exc c fs S).bind k = .exc c fs S := rfl
@[simp] theorem Res.bind_bad {k : D → Sto → Res} : Res.bad.bind k = .bad := rfl
@[simp] theorem Res.bindL_ok {d S} {k : D → Sto → ResL} : (Res.ok d S).bindL k = k d S := rfl
@[simp] theorem Res.bindL_exc {c fs S} {k : D → Sto → ResL} : (Res.exc c fs S).bindL k = .exc c fs S := rfl
@[simp] theorem Res.bindL_bad {k : D → Sto → ResL} : Res.bad.bindL k = .bad := rfl
@[simp] theorem Res.bindB_ok {d S} {k : D → Sto → ResB} : (Res.ok d S).bindB k = k d S := rfl
@[simp] theorem Res.bindB_exc {c fs S} {k : D → Sto → ResB} : (Res.exc c fs S).bindB k = .exc c fs S := rfl
@[simp] theorem Res.bindB_bad {k : D → Sto → ResB} : Res.bad.bindB k = .bad := rfl
@[simp] theorem ResL.bind_ok {d S} {k : List D → Sto → Res} : (ResL.ok d S).bind k = k d S := rfl
@[simp] theorem ResL.bind_exc {c fs S} {k : List D → Sto → Res} : (ResL.exc c fs S).bind k = .exc c fs S := rfl
@[simp] theorem ResL.bind_bad {k : List D → Sto → Res} : ResL.bad.bind k = .bad := rfl
@[simp] theorem ResL.bindL_ok {d S} {k : List D → Sto → ResL} : (ResL.ok d S).bindL k = k d S := rfl
@[simp] theorem ResL.bindL_exc {c fs S} {k : List D → Sto → ResL} : (ResL.exc c fs S).bindL k = .exc c fs S := rfl
@[simp] theorem ResL.bindL_bad {k : List D → Sto → ResL} : ResL.bad.bindL k = .bad := rfl
@[simp] theorem ResB.bind_ok {d S} {k : Bool → Sto → Res} : (ResB.ok d S).bind k = k d S := rfl
@[simp] theorem ResB.bind_exc {c fs S} {k : Bool → Sto → Res} : (ResB.exc c fs S).bind k = .exc c fs S := rfl
@[simp] theorem ResB.bind_bad {k : Bool → Sto → Res} : ResB.bad.bind k = .bad := rfl
@[simp] theorem ResB.bindB_ok {d S} {k : Bool → Sto → ResB} : (ResB.ok d S).bindB k = k d S := rfl
@[simp] theorem ResB.bindB_exc {c fs S} {k : Bool → Sto → ResB} : (ResB.exc c fs S).bindB k = .exc c fs S := rfl
@[simp] theorem ResB.bindB_bad {k : Bool → Sto → ResB} : ResB.bad.bindB k = .bad := rfl

section
variable {K : PySem.W.Frag} {W : WX} {σ : L2.St} {H : Hp}
/-- first f, then what hangs on its value -/
theorem tE.then {f : FE} {k : Ev → D → Sto → Res} {Q : VK} (h : tE K W (fun E S => (f E S).bind (k E)) σ H Q) :
    tE K W f σ H fun v H1 => ∃ m E S d, RE K H1 m E σ ∧ RS K H1 m S ∧ RV K H1 m d v ∧ PV K W H1 m σ (k E d S) Q := by
  obtain ⟨m, E, S, re, rs, p⟩ := h
  try dsimp only at p
  refine ⟨m, E, S, re, rs, ?_⟩
  cases e : f E S with
  | ok d S1 => rw [e] at p; exact fun H1 m1 v l rs1 rv => ⟨m1, E, S1, d, re.up l, rs1, rv, PV.re l p⟩
  | exc c fs S1 => rw [e] at p; exact p
  | bad => rw [e] at p; exact p
theorem tE.thenL {f : FE} {k : Ev → D → Sto → ResL} {Q : List V → Hp → Prop} (h : tL K W (fun E S => (f E S).bindL (k E)) σ H Q) :
    tE K W f σ H fun v H1 => ∃ m E S d, RE K H1 m E σ ∧ RS K H1 m S ∧ RV K H1 m d v ∧ PL K W H1 m σ (k E d S) Q := by
  obtain ⟨m, E, S, re, rs, p⟩ := h
  try dsimp only at p
  refine ⟨m, E, S, re, rs, ?_⟩
  cases e : f E S with
  | ok d S1 => rw [e] at p; exact fun H1 m1 v l rs1 rv => ⟨m1, E, S1, d, re.up l, rs1, rv, PL.re l p⟩
  | exc c fs S1 => rw [e] at p; exact p
  | bad => rw [e] at p; exact p
theorem tE.thenB {f : FE} {k : Ev → D → Sto → ResB} {Q : Bool → Hp → Prop} (h : tT K W (fun E S => (f E S).bindB (k E)) σ H Q) :
    tE K W f σ H fun v H1 => ∃ m E S d, RE K H1 m E σ ∧ RS K H1 m S ∧ RV K H1 m d v ∧ PB K W H1 m σ (k E d S) Q := by
  obtain ⟨m, E, S, re, rs, p⟩ := h
  try dsimp only at p
  refine ⟨m, E, S, re, rs, ?_⟩
  cases e : f E S with
  | ok d S1 => rw [e] at p; exact fun H1 m1 v l rs1 rv => ⟨m1, E, S1, d, re.up l, rs1, rv, PB.re l p⟩
  | exc c fs S1 => rw [e] at p; exact p
  | bad => rw [e] at p; exact p
theorem tL.then {f : FL} {k : Ev → List D → Sto → Res} {Q : VK} (h : tE K W (fun E S => (f E S).bind (k E)) σ H Q) :
    tL K W f σ H fun vs H1 => ∃ m E S ds, RE K H1 m E σ ∧ RS K H1 m S ∧ RVs K H1 m ds vs ∧ PV K W H1 m σ (k E ds S) Q := by
  obtain ⟨m, E, S, re, rs, p⟩ := h
  try dsimp only at p
  refine ⟨m, E, S, re, rs, ?_⟩
  cases e : f E S with
  | ok d S1 => rw [e] at p; exact fun H1 m1 v l rs1 rv => ⟨m1, E, S1, d, re.up l, rs1, rv, PV.re l p⟩
  | exc c fs S1 => rw [e] at p; exact p
  | bad => rw [e] at p; exact p
theorem tL.thenL {f : FL} {k : Ev → List D → Sto → ResL} {Q : List V → Hp → Prop} (h : tL K W (fun E S => (f E S).bindL (k E)) σ H Q) :
    tL K W f σ H fun vs H1 => ∃ m E S ds, RE K H1 m E σ ∧ RS K H1 m S ∧ RVs K H1 m ds vs ∧ PL K W H1 m σ (k E ds S) Q := by
  obtain ⟨m, E, S, re, rs, p⟩ := h
  try dsimp only at p
  refine ⟨m, E, S, re, rs, ?_⟩
  cases e : f E S with
  | ok d S1 => rw [e] at p; exact fun H1 m1 v l rs1 rv => ⟨m1, E, S1, d, re.up l, rs1, rv, PL.re l p⟩
  | exc c fs S1 => rw [e] at p; exact p
  | bad => rw [e] at p; exact p
theorem tT.then {f : FB} {k : Ev → Bool → Sto → Res} {Q : VK} (h : tE K W (fun E S => (f E S).bind (k E)) σ H Q) :
    tT K W f σ H fun b H1 => ∃ m E S, RE K H1 m E σ ∧ RS K H1 m S ∧ PV K W H1 m σ (k E b S) Q := by
  obtain ⟨m, E, S, re, rs, p⟩ := h
  try dsimp only at p
  refine ⟨m, E, S, re, rs, ?_⟩
  cases e : f E S with
  | ok d S1 => rw [e] at p; exact fun H1 m1 l rs1 => ⟨m1, E, S1, re.up l, rs1, PV.re l p⟩
  | exc c fs S1 => rw [e] at p; exact p
  | bad => rw [e] at p; exact p
theorem tT.thenB {f : FB} {k : Ev → Bool → Sto → ResB} {Q : Bool → Hp → Prop} (h : tT K W (fun E S => (f E S).bindB (k E)) σ H Q) :
    tT K W f σ H fun b H1 => ∃ m E S, RE K H1 m E σ ∧ RS K H1 m S ∧ PB K W H1 m σ (k E b S) Q := by
  obtain ⟨m, E, S, re, rs, p⟩ := h
  try dsimp only at p
  refine ⟨m, E, S, re, rs, ?_⟩
  cases e : f E S with
  | ok d S1 => rw [e] at p; exact fun H1 m1 l rs1 => ⟨m1, E, S1, re.up l, rs1, PB.re l p⟩
  | exc c fs S1 => rw [e] at p; exact p
  | bad => rw [e] at p; exact p
theorem tE.mono {f : FE} {Q Q' : VK} (h : tE K W f σ H Q) (hQ : ∀ v H', Q v H' → Q' v H') : tE K W f σ H Q' := by
  obtain ⟨m, E, S, re, rs, p⟩ := h
  try dsimp only at p
  refine ⟨m, E, S, re, rs, ?_⟩
  cases e : f E S with
  | ok d S1 => rw [e] at p; exact fun H1 m1 v l rs1 rv => hQ _ _ (p H1 m1 v l rs1 rv)
  | exc c fs S1 => rw [e] at p; exact p
  | bad => rw [e] at p; exact p
theorem tL.mono {f : FL} {Q Q' : List V → Hp → Prop} (h : tL K W f σ H Q) (hQ : ∀ v H', Q v H' → Q' v H') : tL K W f σ H Q' := by
  obtain ⟨m, E, S, re, rs, p⟩ := h
  try dsimp only at p
  refine ⟨m, E, S, re, rs, ?_⟩
  cases e : f E S with
  | ok d S1 => rw [e] at p; exact fun H1 m1 v l rs1 rv => hQ _ _ (p H1 m1 v l rs1 rv)
  | exc c fs S1 => rw [e] at p; exact p
  | bad => rw [e] at p; exact p
theorem tT.mono {f : FB} {Q Q' : Bool → Hp → Prop} (h : tT K W f σ H Q) (hQ : ∀ v H', Q v H' → Q' v H') : tT K W f σ H Q' := by
  obtain ⟨m, E, S, re, rs, p⟩ := h
  try dsimp only at p
  refine ⟨m, E, S, re, rs, ?_⟩
  cases e : f E S with
  | ok d S1 => rw [e] at p; exact fun H1 m1 l rs1 => hQ _ _ (p H1 m1 l rs1)
  | exc c fs S1 => rw [e] at p; exact p
  | bad => rw [e] at p; exact p
/-- two in a row -/
theorem tE.two {f g : FE} {k : D → D → Sto → Res} {Q : VK} (h : tE K W (fun E S => (f E S).bind fun x S1 => (g E S1).bind fun y S2 => k x y S2) σ H Q) :
    tE K W f σ H fun v H1 => tE K W g σ H1 fun u H2 => ∃ m S x y, RS K H2 m S ∧ RV K H2 m x v ∧ RV K H2 m y u ∧ PV K W H2 m σ (k x y S) Q := by
  refine (tE.then (k := fun E x S1 => (g E S1).bind fun y S2 => k x y S2) h).mono fun v H1 ⟨m, E, S, d, re, rs, rv, p⟩ => ?_
  try dsimp only at p
  refine ⟨m, E, S, re, rs, ?_⟩
  cases e : g E S with
  | ok d2 S1 => rw [e] at p; exact fun H2 m2 u l rs2 ru => ⟨m2, S1, d, d2, rs2, rv.up l, ru, PV.re l p⟩
  | exc c fs S1 => rw [e] at p; exact p
  | bad => rw [e] at p; exact p
theorem tE.twoB {f g : FE} {k : D → D → Sto → ResB} {Q : Bool → Hp → Prop} (h : tT K W (fun E S => (f E S).bindB fun x S1 => (g E S1).bindB fun y S2 => k x y S2) σ H Q) :
    tE K W f σ H fun v H1 => tE K W g σ H1 fun u H2 => ∃ m S x y, RS K H2 m S ∧ RV K H2 m x v ∧ RV K H2 m y u ∧ PB K W H2 m σ (k x y S) Q := by
  refine (tE.thenB (k := fun E x S1 => (g E S1).bindB fun y S2 => k x y S2) h).mono fun v H1 ⟨m, E, S, d, re, rs, rv, p⟩ => ?_
  try dsimp only at p
  refine ⟨m, E, S, re, rs, ?_⟩
  cases e : g E S with
  | ok d2 S1 => rw [e] at p; exact fun H2 m2 u l rs2 ru => ⟨m2, S1, d, d2, rs2, rv.up l, ru, PB.re l p⟩
  | exc c fs S1 => rw [e] at p; exact p
  | bad => rw [e] at p; exact p
end

/-! ## operations by values -/
/-- a two-place operation, by data -/
def O2 (X : Cx) (f : Value → Value → Sem Value) (g : D → D → Sto → Res) : Prop :=
  ∀ (W : WX) (pins : List (Addr × Obj)) (s : Shared) (σ : L2.St) (H : Hp) (m : List Addr) (S : Sto) (d e : D) (x y : V) (v u : Value) (Q : VK), Inv X pins σ H s → RS X.K H m S → RV X.K H m d x → RV X.K H m e y → RelV x v → RelV y u →
    PV X.K W H m σ (g d e S) Q → wpAny (model X.prog X.w) X.A (f v u) (EP X pins σ Q) X.xe s
def O1 (X : Cx) (f : Value → Sem Value) (g : D → Sto → Res) : Prop :=
  ∀ (W : WX) (pins : List (Addr × Obj)) (s : Shared) (σ : L2.St) (H : Hp) (m : List Addr) (S : Sto) (d : D) (x : V) (v : Value) (Q : VK), Inv X pins σ H s → RS X.K H m S → RV X.K H m d x → RelV x v →
    PV X.K W H m σ (g d S) Q → wpAny (model X.prog X.w) X.A (f v) (EP X pins σ Q) X.xe s
/-- a call of a builtin with values -/
def OC (X : Cx) (f : Value) (g : List D → Sto → Res) : Prop :=
  ∀ (W : WX) (pins : List (Addr × Obj)) (s : Shared) (σ : L2.St) (H : Hp) (m : List Addr) (S : Sto) (ds : List D) (xs : List V) (us : List Value) (Q : VK), Inv X pins σ H s → RS X.K H m S → RVs X.K H m ds xs → Vals xs us →
    PV X.K W H m σ (g ds S) Q → wpAny (model X.prog X.w) X.A (call f us) (EP X pins σ Q) X.xe s
/-- a builtin's method: the receiver's type is T -/
def OM (X : Cx) (T : String) (id : String) (g : D → List D → Sto → Res) : Prop :=
  ∀ (W : WX) (pins : List (Addr × Obj)) (s : Shared) (σ : L2.St) (H : Hp) (m : List Addr) (S : Sto) (d : D) (ds : List D) (x : V) (xs : List V) (v : Value) (us : List Value) (Q : VK), Inv X pins σ H s → RS X.K H m S → RV X.K H m d x → RVs X.K H m ds xs → RelV x v → Vals xs us →
    PV X.K W H m σ (g d ds S) Q → wpAny (model X.prog X.w) X.A (call (.builtin id) (v :: us)) (EP X pins σ Q) X.xe s

/-! ## expressions -/
def vV (i : Nat) : FE := fun E S => match E[i]? with
  | some (some d) => .ok d S
  | _ => .bad
def vC (d : D) : FE := fun _ S => .ok d S
def vBin (g : D → D → Sto → Res) (f1 f2 : FE) : FE := fun E S => (f1 E S).bind fun x S1 => (f2 E S1).bind fun y S2 => g x y S2
def vUn (g : D → Sto → Res) (f1 : FE) : FE := fun E S => (f1 E S).bind fun x S1 => g x S1
def lNil : FL := fun _ S => .ok [] S
def lCons (f : FE) (l : FL) : FL := fun E S => (f E S).bindL fun x S1 => (l E S1).bindL fun xs S2 => .ok (x :: xs) S2
def vTup (l : FL) : FE := fun E S => (l E S).bind fun xs S1 => if xs.length ≤ 1000 then .ok (.tup xs) S1 else .bad
def vLst (l : FL) : FE := fun E S => (l E S).bind fun xs S1 => if xs.length ≤ 1000 then .ok (.ref S1.length) (S1 ++ [.lst xs]) else .bad
def vEmp : FE := fun _ S => .ok .emp S
def vIf (t : FB) (f1 f2 : FE) : FE := fun E S => (t E S).bind fun b S1 => if b then f1 E S1 else f2 E S1
def vCall (g : List D → Sto → Res) (l : FL) : FE := fun E S => (l E S).bind g
def vMet (g : D → List D → Sto → Res) (f : FE) (l : FL) : FE := fun E S => (f E S).bind fun x S1 => (l E S1).bind fun xs S2 => g x xs S2
/-- truth -/
def truth (d : D) (S : Sto) : Option Bool := match d with
  | .non => some false
  | .bl b => some b
  | .int i => some (i != 0)
  | .str x => if x.length ≤ sizeLine then some ((x.length : Int) != 0) else none
  | .tup xs => some (!xs.isEmpty)
  | .fl xs => some (!xs.isEmpty)
  | .emp => some false
  | .ref n => match S[n]? with
    | some (.lst xs) => some (!xs.isEmpty)
    | _ => none
def bOf (f : FE) : FB := fun E S => (f E S).bindB fun d S1 => match truth d S1 with
  | some b => .ok b S1
  | none => .bad
def bAnd (f g : FB) : FB := fun E S => (f E S).bindB fun b S1 => if b then g E S1 else .ok false S1
def bOr (f g : FB) : FB := fun E S => (f E S).bindB fun b S1 => if b then .ok true S1 else g E S1
def bNot (f : FB) : FB := fun E S => (f E S).bindB fun b S1 => .ok (!b) S1
/-- a comparison as a test -/
def bCmp (g : D → D → Sto → Res) (f1 f2 : FE) : FB := fun E S => (f1 E S).bindB fun x S1 => (f2 E S1).bindB fun y S2 => (g x y S2).bindB fun z S3 => match z with
  | .bl b => .ok b S3
  | _ => .bad
/-- and, or, not as values -/
def vAnd (f g : FE) : FE := fun E S => (f E S).bind fun d S1 => match truth d S1 with
  | some b => if b then g E S1 else .ok d S1
  | none => .bad
def vOr (f g : FE) : FE := fun E S => (f E S).bind fun d S1 => match truth d S1 with
  | some b => if b then .ok d S1 else g E S1
  | none => .bad
def vNot (f : FE) : FE := fun E S => (f E S).bind fun d S1 => match truth d S1 with
  | some b => .ok (.bl (!b)) S1
  | none => .bad

section
variable {X : Cx} {W : WX} {pos : Pos}
theorem ok_here {K : PySem.W.Frag} {H : Hp} {m : List Addr} {σ : L2.St} {d : D} {S : Sto} {v : V} {Q : VK} (rs : RS K H m S) (rv : RV K H m d v) (p : PV K W H m σ (.ok d S) Q) : Q v H := p H m v Le.refl rs rv
theorem RV.len_str {K H m x v} (h : RV K H m (.str x) v) : v = .str x := by cases h; rfl

theorem e_var {i : Nat} {x : Str} (hN : X.N[i]? = some x) (hv : Vis X.env.scope x) (hd : (x == ("__debug__" : Str)) = false := by decide) (hcd : (x == ("__classdict__" : Str)) = false := by decide) : PE X (.Name x pos) (tE X.K W (vV i)) := by
  refine ⟨fun pins s σ H Q I h => (pe_var hN hv hd hcd).run pins s σ H Q I ?_⟩
  obtain ⟨m, E, S, re, rs, p⟩ := h
  unfold vV at p
  cases e : E[i]? with
  | none => rw [e] at p; exact p.elim
  | some o =>
    cases o with
    | none => rw [e] at p; exact p.elim
    | some d =>
      rw [e] at p
      obtain ⟨v, h1, h2⟩ := re.at_ i d e
      exact ⟨v, h1, p H m v Le.refl rs h2⟩
theorem e_c {e : Expr} {d : D} {v : V} (h : PE X e (tC v)) (r : ∀ H m, RV X.K H m d v) : PE X e (tE X.K W (vC d)) :=
  ⟨fun pins s σ H Q I ⟨m, E, S, re, rs, p⟩ => h.run pins s σ H Q I (p H m v Le.refl rs (r H m))⟩
theorem e_int {i j} : PE X (.Constant (.int i) j pos) (tE X.K W (vC (.int i))) := e_c pe_int fun _ _ => .int _
theorem e_bl {i j} : PE X (.Constant (.bool i) j pos) (tE X.K W (vC (.bl i))) := e_c pe_bl fun _ _ => .bl _
theorem e_non {j} : PE X (.Constant .none j pos) (tE X.K W (vC .non)) := e_c pe_non fun _ _ => .non
theorem e_str {i j} : PE X (.Constant (.str i) j pos) (tE X.K W (vC (.str i))) := e_c pe_str fun _ _ => .str _
theorem e_bin {op : Operator} {a b : Expr} {f1 f2 : FE} {g} (ho : O2 X (binaryOp op) g) (ha : PE X a (tE X.K W f1)) (hb : PE X b (tE X.K W f2)) : PE X (.BinOp a op b pos) (tE X.K W (vBin g f1 f2)) := by
  refine ⟨fun pins s σ H Q I h => ?_⟩
  refine wpAny_BinOp (binT ha hb I (tE.two h) fun v u s2 x y H2 I2 rx ry ⟨m, S, d, e, rs, rd, re, p⟩ => ?_)
  exact ho W pins s2 σ H2 m S d e x y v u Q I2 rs rd re rx ry p
theorem e_cmp {op : CmpOp} {a b : Expr} {f1 f2 : FE} {g} (ho : O2 X (compareOp op) g) (hm : behindInMarks op b = false) (ha : PE X a (tE X.K W f1)) (hb : PE X b (tE X.K W f2)) : PE X (.Compare a [op] [b] pos) (tE X.K W (vBin g f1 f2)) := by
  refine ⟨fun pins s σ H Q I h => ?_⟩
  refine wpAny_Compare1 (binT ha hb I (tE.two h) fun v u s2 x y H2 I2 rx ry ⟨m, S, d, e, rs, rd, re, p⟩ => ?_) hm
  exact ho W pins s2 σ H2 m S d e x y v u Q I2 rs rd re rx ry p
theorem e_un {op : UnaryOp} {a : Expr} {f1 : FE} {g} (ho : O1 X (unaryOp op) g) (ha : PE X a (tE X.K W f1)) : PE X (.UnaryOp op a pos) (tE X.K W (vUn g f1)) := by
  refine ⟨fun pins s σ H Q I h => ?_⟩
  refine UnaryOp_ (thn (ha.run pins s σ H _ I (tE.then (k := fun _ x S1 => g x S1) h)) fun v s1 ⟨x, H1, I1, r1, m, E, S, d, re, rs, rd, p⟩ => ?_)
  exact ho W pins s1 σ H1 m S d x v Q I1 rs rd r1 p
theorem a_nil : PA X [] (tL X.K W lNil) := ⟨fun pos pins s σ H Q I ⟨m, E, S, re, rs, p⟩ => pa_nil.run pos pins s σ H Q I (p H m [] Le.refl rs .nil)⟩
theorem a_cons {e : Expr} {es : List Expr} {f : FE} {l : FL} (ha : PE X e (tE X.K W f)) (hr : PA X es (tL X.K W l)) (hs : starEach (e :: es) X.env = (false, eval e X.env) :: starEach es X.env := by rfl) : PA X (e :: es) (tL X.K W (lCons f l)) := by
  refine ⟨fun pos pins s σ H Q I h => (pa_cons ha hr hs).run pos pins s σ H Q I ?_⟩
  refine (tE.thenL (k := fun E x S1 => (l E S1).bindL fun xs S2 => .ok (x :: xs) S2) h).mono fun v H1 ⟨m, E, S, d, re, rs, rv, p⟩ => ?_
  try dsimp only at p
  refine ⟨m, E, S, re, rs, ?_⟩
  cases e : l E S with
  | ok d2 S1 => rw [e] at p; exact fun H2 m2 u l rs2 ru => p H2 m2 (v :: u) l rs2 (.cons (rv.up l) ru)
  | exc c fs S1 => rw [e] at p; exact p
  | bad => rw [e] at p; exact p
theorem k_nil : PK X [] (tL X.K W lNil) := ⟨fun pos pins s σ H Q I ⟨m, E, S, re, rs, p⟩ => pk_nil.run pos pins s σ H Q I (p H m [] Le.refl rs .nil)⟩
theorem k_cons {e : Expr} {kws : List Keyword} {nm : Option Str} {kpos : Pos} {f : FE} {l : FL} (ha : PE X e (tE X.K W f)) (hr : PK X kws (tL X.K W l)) : PK X (⟨nm, e, kpos⟩ :: kws) (tL X.K W (lCons f l)) := by
  refine ⟨fun pos pins s σ H Q I h => (pk_cons ha hr).run pos pins s σ H Q I ?_⟩
  refine (tE.thenL (k := fun E x S1 => (l E S1).bindL fun xs S2 => .ok (x :: xs) S2) h).mono fun v H1 ⟨m, E, S, d, re, rs, rv, p⟩ => ?_
  try dsimp only at p
  refine ⟨m, E, S, re, rs, ?_⟩
  cases e : l E S with
  | ok d2 S1 => rw [e] at p; exact fun H2 m2 u l rs2 ru => p H2 m2 (v :: u) l rs2 (.cons (rv.up l) ru)
  | exc c fs S1 => rw [e] at p; exact p
  | bad => rw [e] at p; exact p
theorem le1000 {n : Nat} (h : n ≤ 1000) : n ≤ sizeLine := Nat.le_trans h (by decide)
theorem e_tup {es : List Expr} {l : FL} {x1} (h : PA X es (tL X.K W l)) : PE X (.Tuple es x1 pos) (tE X.K W (vTup l)) := by
  refine ⟨fun pins s σ H Q I hq => (pe_tup h).run pins s σ H Q I ?_⟩
  refine (tL.then (k := fun _ xs S1 => if xs.length ≤ 1000 then .ok (.tup xs) S1 else .bad) hq).mono fun vs H1 ⟨m, E, S, ds, re, rs, rv, p⟩ => ?_
  try dsimp only at p
  by_cases hz : ds.length ≤ 1000
  · rw [if_pos hz] at p
    refine ⟨by rw [← rv.len]; exact le1000 hz, fun q hq => ?_⟩
    have l1 : Le X.K H1 m (upd H1 q (.tup vs)) m := Le.new hq
    exact p _ m _ l1 (rs.side hq) (.tup (SqT.of upd_same) (rv.up l1))
  · rw [if_neg hz] at p; exact p.elim
theorem e_lst {es : List Expr} {l : FL} (h : PA X es (tL X.K W l)) : PE X (.List es pos) (tE X.K W (vLst l)) := by
  refine ⟨fun pins s σ H Q I hq => (pe_lst h).run pins s σ H Q I ?_⟩
  refine (tL.then (k := fun _ xs S1 => if xs.length ≤ 1000 then .ok (.ref S1.length) (S1 ++ [.lst xs]) else .bad) hq).mono fun vs H1 ⟨m, E, S, ds, re, rs, rv, p⟩ => ?_
  try dsimp only at p
  by_cases hz : ds.length ≤ 1000
  · rw [if_pos hz] at p
    refine ⟨by rw [← rv.len]; exact le1000 hz, fun q hq => ?_⟩
    obtain ⟨l1, r1⟩ := rs.alloc hq rv
    exact p _ _ _ l1 r1 (.ref (by rw [← rs.len]; simp))
  · rw [if_neg hz] at p; exact p.elim
theorem e_emp : PE X (.Dict [] [] pos) (tE X.K W vEmp) := by
  refine ⟨fun pins s σ H Q I ⟨m, E, S, re, rs, p⟩ => pe_dnewK.run pins s σ H Q I fun q hq => ?_⟩
  exact p _ m _ (Le.new hq) (rs.side hq) (.emp upd_same)
theorem e_if {c a b : Expr} {t : FB} {f1 f2 : FE} (hc : PT X c (tT X.K W t)) (ha : PE X a (tE X.K W f1)) (hb : PE X b (tE X.K W f2)) : PE X (.IfExp c a b pos) (tE X.K W (vIf t f1 f2)) := by
  refine ⟨fun pins s σ H Q I h => (pe_ifExp hc ha hb).run pins s σ H Q I ?_⟩
  refine (tT.then (k := fun E b S1 => if b then f1 E S1 else f2 E S1) h).mono fun b H1 ⟨m, E, S, re, rs, p⟩ => ?_
  try dsimp only at p
  cases b with
  | true => exact iteT ⟨m, E, S, re, rs, p⟩
  | false => exact iteF ⟨m, E, S, re, rs, p⟩
theorem truV {K : PySem.W.Frag} {H : Hp} {m : List Addr} {S : Sto} {d : D} {v : V} {b : Bool} (rs : RS K H m S) (rv : RV K H m d v) (h : truth d S = some b) : TruV K v H b := by
  cases rv with
  | non => cases h; rfl
  | bl b => cases h; rfl
  | int i => cases h; rfl
  | str x =>
    have h' : (if x.length ≤ sizeLine then some ((x.length : Int) != 0) else none) = some b := h
    by_cases hz : x.length ≤ sizeLine
    · rw [if_pos hz] at h'; cases h'; exact ⟨hz, rfl⟩
    · rw [if_neg hz] at h'; cases h'
  | tup h1 h2 =>
    cases h
    refine .inr (.inl ⟨_, h1, ?_⟩)
    cases h2 <;> rfl
  | fl h1 h2 =>
    cases h
    refine .inl ⟨_, h1.sq, ?_⟩
    cases h2 <;> rfl
  | emp h1 => cases h; exact .inr (.inr ⟨_, h1, rfl⟩)
  | ref h1 =>
    rename_i n a
    unfold truth at h
    cases e : S[n]? with
    | none => simp [e] at h
    | some c =>
      cases c with
      | lst xs =>
        simp only [e] at h
        cases h
        obtain ⟨a', vs, e1, h2, h3, h4⟩ := rs.list e (.ref h1)
        cases e1
        refine .inl ⟨_, SqL.of h3, ?_⟩
        cases h4 <;> rfl
      | exc c fs => simp [e] at h
      | ins c fs => simp [e] at h
theorem t_of {a : Expr} {f : FE} (ha : PE X a (tE X.K W f)) (he : ∀ whole, isTrue a X.env whole = (do let v ← whole; standAt a.pos; holding [v] (truthy v)) := by intro _; rfl) : PT X a (tT X.K W (bOf f)) := by
  refine ⟨fun pins s σ H Q I h => (pt_truth ha he).run pins s σ H Q I ?_⟩
  refine (tE.thenB (k := fun _ d S1 => match truth d S1 with | some b => .ok b S1 | none => .bad) h).mono fun v H1 ⟨m, E, S, d, re, rs, rv, p⟩ => ?_
  try dsimp only at p
  cases e : truth d S with
  | none => simp [e] at p; exact p.elim
  | some b => simp [e] at p; exact ⟨b, truV rs rv e, p H1 m Le.refl rs⟩
theorem t_cmp {op : CmpOp} {a b : Expr} {f1 f2 : FE} {g} (ho : O2 X (compareOp op) g) (hm : behindInMarks op b = false) (ha : PE X a (tE X.K W f1)) (hb : PE X b (tE X.K W f2)) : PT X (.Compare a [op] [b] pos) (tT X.K W (bCmp g f1 f2)) := by
  refine ⟨fun pins s σ H Q I h => ?_⟩
  refine wpAny_isTrue_Compare1 (binT ha hb I (tE.twoB h) fun v u s2 x y H2 I2 rx ry ⟨m, S, d, e, rs, rd, re, p⟩ => ?_) hm
  have q : PV X.K W H2 m σ (g d e S) (fun z H3 => ∃ k, z = .bl k ∧ Q k H3) := by
    cases ee : g d e S with
    | ok z S1 =>
      rw [ee] at p
      intro H3 m3 z' l rs3 rz
      cases z with
      | bl k => cases rz; exact ⟨k, rfl, p H3 m3 l rs3⟩
      | _ => exact p.elim
    | exc c fs S1 => rw [ee] at p; exact p
    | bad => rw [ee] at p; exact p
  refine thn (ho W pins s2 σ H2 m S d e x y v u _ I2 rs rd re rx ry q) fun c s3 ⟨z, H3, I3, r3, k, e, q3⟩ => ?_
  subst e
  cases r3
  exact wpAny_truthy_bool ⟨H3, I3, q3⟩
theorem w_and1 {a : Expr} {f : FB} (ha : PT X a (tT X.K W f)) : PW X (.BoolOp .And [a] pos) (tT X.K W f) := pw_and1 ha
theorem w_or1 {a : Expr} {f : FB} (ha : PT X a (tT X.K W f)) : PW X (.BoolOp .Or [a] pos) (tT X.K W f) := pw_or1 ha
theorem w_and {a b : Expr} {rest : List Expr} {f g : FB} (ha : PT X a (tT X.K W f)) (hb : PW X (.BoolOp .And (b :: rest) pos) (tT X.K W g)) : PW X (.BoolOp .And (a :: b :: rest) pos) (tT X.K W (bAnd f g)) := by
  refine ⟨fun wh pins s σ H Q I h => (pw_and ha hb).run wh pins s σ H Q I ?_⟩
  refine (tT.thenB (k := fun E b S1 => if b then g E S1 else .ok false S1) h).mono fun b H1 ⟨m, E, S, re, rs, p⟩ => ?_
  try dsimp only at p
  cases b with
  | true => exact iteT ⟨m, E, S, re, rs, p⟩
  | false => exact iteF (p H1 m Le.refl rs)
theorem w_or {a b : Expr} {rest : List Expr} {f g : FB} (ha : PT X a (tT X.K W f)) (hb : PW X (.BoolOp .Or (b :: rest) pos) (tT X.K W g)) : PW X (.BoolOp .Or (a :: b :: rest) pos) (tT X.K W (bOr f g)) := by
  refine ⟨fun wh pins s σ H Q I h => (pw_or ha hb).run wh pins s σ H Q I ?_⟩
  refine (tT.thenB (k := fun E b S1 => if b then .ok true S1 else g E S1) h).mono fun b H1 ⟨m, E, S, re, rs, p⟩ => ?_
  try dsimp only at p
  cases b with
  | true => exact iteT (p H1 m Le.refl rs)
  | false => exact iteF ⟨m, E, S, re, rs, p⟩
theorem t_not {a : Expr} {f : FB} (ha : PT X a (tT X.K W f)) : PT X (.UnaryOp .Not a pos) (tT X.K W (bNot f)) := by
  refine ⟨fun pins s σ H Q I h => (pt_not ha).run pins s σ H Q I ?_⟩
  exact (tT.thenB (k := fun E b S1 => .ok (!b) S1) h).mono fun b H1 ⟨m, E, S, re, rs, p⟩ => p H1 m Le.refl rs
theorem e_and {a b : Expr} {rest : List Expr} {f g : FE} (ha : PE X a (tE X.K W f)) (hb : PE X (.BoolOp .And (b :: rest) pos) (tE X.K W g)) : PE X (.BoolOp .And (a :: b :: rest) pos) (tE X.K W (vAnd f g)) := by
  refine ⟨fun pins s σ H Q I h => (pe_andT ha hb).run pins s σ H Q I ?_⟩
  refine (tE.then (k := fun E d S1 => match truth d S1 with | some b => if b then g E S1 else .ok d S1 | none => .bad) h).mono fun v H1 ⟨m, E, S, d, re, rs, rv, p⟩ => ?_
  try dsimp only at p
  cases e : truth d S with
  | none => simp [e] at p; exact p.elim
  | some b =>
    simp only [e] at p
    refine ⟨b, truV rs rv e, ?_⟩
    cases b with
    | true => exact iteT ⟨m, E, S, re, rs, p⟩
    | false => exact iteF (p H1 m v Le.refl rs rv)
theorem e_or {a b : Expr} {rest : List Expr} {f g : FE} (ha : PE X a (tE X.K W f)) (hb : PE X (.BoolOp .Or (b :: rest) pos) (tE X.K W g)) : PE X (.BoolOp .Or (a :: b :: rest) pos) (tE X.K W (vOr f g)) := by
  refine ⟨fun pins s σ H Q I h => (pe_orT ha hb).run pins s σ H Q I ?_⟩
  refine (tE.then (k := fun E d S1 => match truth d S1 with | some b => if b then .ok d S1 else g E S1 | none => .bad) h).mono fun v H1 ⟨m, E, S, d, re, rs, rv, p⟩ => ?_
  try dsimp only at p
  cases e : truth d S with
  | none => simp [e] at p; exact p.elim
  | some b =>
    simp only [e] at p
    refine ⟨b, truV rs rv e, ?_⟩
    cases b with
    | true => exact iteT (p H1 m v Le.refl rs rv)
    | false => exact iteF ⟨m, E, S, re, rs, p⟩
theorem e_one {op} {a : Expr} {f : FE} (h : PE X a (tE X.K W f)) : PE X (.BoolOp op [a] pos) (tE X.K W f) := pe_one h
theorem e_not {a : Expr} {f : FE} (ha : PE X a (tE X.K W f)) : PE X (.UnaryOp .Not a pos) (tE X.K W (vNot f)) := by
  refine ⟨fun pins s σ H Q I h => (pe_notT ha).run pins s σ H Q I ?_⟩
  refine (tE.then (k := fun E d S1 => match truth d S1 with | some b => .ok (.bl (!b)) S1 | none => .bad) h).mono fun v H1 ⟨m, E, S, d, re, rs, rv, p⟩ => ?_
  try dsimp only at p
  cases e : truth d S with
  | none => simp [e] at p; exact p.elim
  | some b =>
    simp only [e] at p
    exact ⟨b, truV rs rv e, p H1 m _ Le.refl rs (.bl _)⟩
/-- f(e, ..), f a builtin -/
theorem e_callB {x : Str} {id : String} {p : Pos} {e : Expr} {es : List Expr} {l : FL} {g} (hc : OC X (.builtin id) g) (hg : Gl X x) (hm : X.mg x = none) (hv : bootBuiltins x = some (.builtin id)) (ha : PA X (e :: es) (tL X.K W l))
    (hn : x ≠ "__name__" := by decide) (hdb : (x == ("__debug__" : Str)) = false := by decide) (he : starEach (e :: es) X.env = (false, eval e X.env) :: starEach es X.env := by rfl) (hpl : (backTo pos (starEach es X.env)).any (·.1) = false := by rfl) :
    PE X (.Call (.Name x p) (e :: es) [] pos) (tE X.K W (vCall g l)) := by
  refine ⟨fun pins s σ H Q I h => ?_⟩
  refine wpAny_Call_Name_kw (ld_blt I hg hm hv ?_ hn hdb)
  exact callWith_builtin1 (thn (ha.run pos pins s σ H _ I (tL.then (k := fun _ => g) h)) fun us s1 ⟨vs, H1, I1, r, m, E, S, ds, re, rs, rv, p⟩ => hc W pins s1 σ H1 m S ds vs us Q I1 rs rv r p) he hpl
/-- f(e, ..), f a builtin of a module that is imported by its name -/
theorem e_callM {x : Str} {id : String} {p : Pos} {e : Expr} {es : List Expr} {l : FL} {g} (hc : OC X (.builtin id) g) (hg : Gl X x) (hm : X.mg x = some (.builtin id)) (ha : PA X (e :: es) (tL X.K W l)) (hdb : (x == ("__debug__" : Str)) = false := by decide)
    (he : starEach (e :: es) X.env = (false, eval e X.env) :: starEach es X.env := by rfl)
    (hpl : (backTo pos (starEach es X.env)).any (·.1) = false := by rfl) : PE X (.Call (.Name x p) (e :: es) [] pos) (tE X.K W (vCall g l)) := by
  refine ⟨fun pins s σ H Q I h => ?_⟩
  refine wpAny_Call_Name_kw (ld_glob I hg hm ?_ hdb)
  exact callWith_builtin1 (thn (ha.run pos pins s σ H _ I (tL.then (k := fun _ => g) h)) fun us s1 ⟨vs, H1, I1, r, m, E, S, ds, re, rs, rv, p⟩ => hc W pins s1 σ H1 m S ds vs us Q I1 rs rv r p) he hpl
/-- T(e, ..), T a type of the language -/
theorem e_callT {x : Str} {T : String} {p : Pos} {e : Expr} {es : List Expr} {l : FL} {g} (hc : OC X (.type T) g) (hg : Gl X x) (hm : X.mg x = none) (hv : bootBuiltins x = some (.type T)) (ha : PA X (e :: es) (tL X.K W l))
    (hn : x ≠ "__name__" := by decide) (hdb : (x == ("__debug__" : Str)) = false := by decide)
    (he : starEach (e :: es) X.env = (false, eval e X.env) :: starEach es X.env := by rfl)
    (hpl : (backTo pos (starEach es X.env)).any (·.1) = false := by rfl) : PE X (.Call (.Name x p) (e :: es) [] pos) (tE X.K W (vCall g l)) := by
  refine ⟨fun pins s σ H Q I h => ?_⟩
  refine wpAny_Call_Name_kw (ld_blt I hg hm hv ?_ hn hdb)
  exact callWith_type1 (thn (ha.run pos pins s σ H _ I (tL.then (k := fun _ => g) h)) fun us s1 ⟨vs, H1, I1, r, m, E, S, ds, re, rs, rv, p⟩ => hc W pins s1 σ H1 m S ds vs us Q I1 rs rv r p) he hpl
end
end Z
namespace Z
open PySem PySem.Spec PyProof.Rows L2

def listOf (S : Sto) (d : D) : Option (List D) := match d with
  | .ref n => (match S[n]? with
    | some (.lst xs) => some xs
    | _ => none)
  | .fl xs => some xs
  | _ => none
/-- lists and tuples -/
def seqOf (S : Sto) (d : D) : Option (List D) := match d with
  | .tup xs => some xs
  | _ => listOf S d
@[simp] theorem listOf_ref (S : Sto) (n : Nat) : listOf S (.ref n) = match S[n]? with | some (.lst xs) => some xs | _ => none := rfl
@[simp] theorem listOf_fl (S : Sto) (xs : List D) : listOf S (.fl xs) = some xs := rfl
@[simp] theorem listOf_tup (S : Sto) (xs : List D) : listOf S (.tup xs) = none := rfl
@[simp] theorem seqOf_tup (S : Sto) (xs : List D) : seqOf S (.tup xs) = some xs := rfl
@[simp] theorem seqOf_ref (S : Sto) (n : Nat) : seqOf S (.ref n) = listOf S (.ref n) := rfl
@[simp] theorem seqOf_fl (S : Sto) (xs : List D) : seqOf S (.fl xs) = some xs := rfl
section
variable {K : PySem.W.Frag} {H : Hp} {m : List Addr} {S : Sto}
theorem list_at {d : D} {v : V} {xs : List D} (rs : RS K H m S) (rv : RV K H m d v) (h : listOf S d = some xs) : ∃ a vs, v = .ref a ∧ SqL K H a vs ∧ RVs K H m xs vs := by
  cases rv with
  | ref h1 =>
    rename_i n a
    cases e : S[n]? with
    | none => simp [e] at h
    | some c =>
      cases c with
      | lst ys =>
        simp [e] at h
        subst h
        obtain ⟨a', vs, e1, h2, h3, h4⟩ := rs.list e (.ref h1)
        cases e1
        exact ⟨_, vs, rfl, SqL.of h3, h4⟩
      | exc c fs => simp [e] at h
      | ins c fs => simp [e] at h
  | fl h1 h2 => simp at h; subst h; exact ⟨_, _, rfl, h1.sq, h2⟩
  | _ => simp [listOf] at h
theorem seq_at {d : D} {v : V} {xs : List D} (rs : RS K H m S) (rv : RV K H m d v) (h : seqOf S d = some xs) : ∃ a vs, v = .ref a ∧ (SqL K H a vs ∨ SqT K H a vs) ∧ RVs K H m xs vs := by
  cases rv with
  | tup h1 h2 => simp at h; subst h; exact ⟨_, _, rfl, .inr h1, h2⟩
  | ref h1 =>
    obtain ⟨a, vs, e, h2, h3⟩ := list_at rs (.ref h1) h
    exact ⟨a, vs, e, .inl h2, h3⟩
  | fl h1 h2 =>
    obtain ⟨a, vs, e, h2, h3⟩ := list_at rs (.fl h1 h2) h
    exact ⟨a, vs, e, .inl h2, h3⟩
  | _ => simp [seqOf, listOf] at h
theorem RVs.ints : ∀ {ns : List Int} {vs : List V}, RVs K H m (ns.map D.int) vs → vs = ns.map V.int
  | [], _, .nil => rfl
  | _ :: _, _, .cons r t => by
    cases r
    rw [RVs.ints t]
    rfl
theorem RVs.of_ints : ∀ (ns : List Int), RVs K H m (ns.map D.int) (ns.map V.int)
  | [] => .nil
  | _ :: t => .cons (.int _) (RVs.of_ints t)
theorem RVs.bls : ∀ {ns : List Bool} {vs : List V}, RVs K H m (ns.map D.bl) vs → vs = ns.map V.bl
  | [], _, .nil => rfl
  | _ :: _, _, .cons r t => by
    cases r
    rw [RVs.bls t]
    rfl
theorem RVs.strs : ∀ {ns : List Str} {vs : List V}, RVs K H m (ns.map D.str) vs → vs = ns.map V.str
  | [], _, .nil => rfl
  | _ :: _, _, .cons r t => by
    cases r
    rw [RVs.strs t]
    rfl
theorem RVs.of_strs : ∀ (ns : List Str), RVs K H m (ns.map D.str) (ns.map V.str)
  | [] => .nil
  | _ :: t => .cons (.str _) (RVs.of_strs t)
end
def intsOf : List D → Option (List Int)
  | [] => some []
  | .int i :: r => (intsOf r).map (i :: ·)
  | _ => none
def blsOf : List D → Option (List Bool)
  | [] => some []
  | .bl i :: r => (blsOf r).map (i :: ·)
  | _ => none
def strsOf : List D → Option (List Str)
  | [] => some []
  | .str i :: r => (strsOf r).map (i :: ·)
  | _ => none
theorem intsOf_eq : ∀ {ds : List D} {ns : List Int}, intsOf ds = some ns → ds = ns.map D.int
  | [], _, h => by simp [intsOf] at h; subst h; rfl
  | d :: r, _, h => by
    cases d with
    | int i =>
      simp only [intsOf, Option.map_eq_some_iff] at h
      obtain ⟨t, h1, rfl⟩ := h
      rw [intsOf_eq h1]
      rfl
    | _ => simp [intsOf] at h
theorem blsOf_eq : ∀ {ds : List D} {ns : List Bool}, blsOf ds = some ns → ds = ns.map D.bl
  | [], _, h => by simp [blsOf] at h; subst h; rfl
  | d :: r, _, h => by
    cases d with
    | bl i =>
      simp only [blsOf, Option.map_eq_some_iff] at h
      obtain ⟨t, h1, rfl⟩ := h
      rw [blsOf_eq h1]
      rfl
    | _ => simp [blsOf] at h
theorem strsOf_eq : ∀ {ds : List D} {ns : List Str}, strsOf ds = some ns → ds = ns.map D.str
  | [], _, h => by simp [strsOf] at h; subst h; rfl
  | d :: r, _, h => by
    cases d with
    | str i =>
      simp only [strsOf, Option.map_eq_some_iff] at h
      obtain ⟨t, h1, rfl⟩ := h
      rw [strsOf_eq h1]
      rfl
    | _ => simp [strsOf] at h
@[simp] theorem intsOf_map (ns : List Int) : intsOf (ns.map D.int) = some ns := by
  induction ns with
  | nil => rfl
  | cons a t ih => simp [intsOf, ih]
@[simp] theorem blsOf_map (ns : List Bool) : blsOf (ns.map D.bl) = some ns := by
  induction ns with
  | nil => rfl
  | cons a t ih => simp [blsOf, ih]
@[simp] theorem strsOf_map (ns : List Str) : strsOf (ns.map D.str) = some ns := by
  induction ns with
  | nil => rfl
  | cons a t ih => simp [strsOf, ih]

/-! ## operators -/
def gAdd (d e : D) (S : Sto) : Res := match d, e with
  | .int i, .int j => .ok (.int (i + j)) S
  | .str x, .str y => if x.length + y.length ≤ sizeLine then .ok (.str (x ++ y)) S else .bad
  | .tup xs, .tup ys => if xs.length + ys.length ≤ 1000 then .ok (.tup (xs ++ ys)) S else .bad
  | .ref a, .ref b => (match S[a]?, S[b]? with
    | some (.lst xs), some (.lst ys) => if xs.length + ys.length ≤ 100000 then .ok (.ref S.length) (S ++ [.lst (xs ++ ys)]) else .bad
    | _, _ => .bad)
  | _, _ => .bad
def gSub (d e : D) (S : Sto) : Res := match d, e with
  | .int i, .int j => .ok (.int (i - j)) S
  | _, _ => .bad
def strRep (x : Str) (n : Int) : Str := if n < 1 then Str.empty else if (n == 1 || x.length == 0) = true then x else ⟨(List.replicate n.toNat x.cps).foldl (· ++ ·) #[]⟩
def gMul (d e : D) (S : Sto) : Res := match d, e with
  | .int i, .int j => if i.natAbs.log2 + j.natAbs.log2 < 1000000 then .ok (.int (i * j)) S else .bad
  | .ref a, .int k => (match S[a]? with
    | some (.lst xs) => if 0 ≤ k ∧ k ≤ 1000 ∧ xs.length ≤ 1000 then .ok (.ref S.length) (S ++ [.lst (List.replicate k.toNat xs).flatten]) else .bad
    | _ => .bad)
  | .str x, .int k => if 0 ≤ k ∧ k ≤ 1000 ∧ x.length ≤ 1000 then .ok (.str (strRep x k)) S else .bad
  | _, _ => .bad
def gDiv (d e : D) (S : Sto) : Res := match d, e with
  | .int i, .int j => if j ≠ 0 ∧ j.natAbs.log2 < 9000 then .ok (.int (i.fdiv j)) S else .bad
  | _, _ => .bad
def gMod (d e : D) (S : Sto) : Res := match d, e with
  | .int i, .int j => if 0 < j then .ok (.int (i % j)) S else .bad
  | _, _ => .bad
def gPow (d e : D) (S : Sto) : Res := match d, e with
  | .int i, .int j => if 0 ≤ j ∧ j ≤ 1000000 ∧ i.natAbs < 2 ^ 64 then .ok (.int (i ^ j.toNat)) S else .bad
  | _, _ => .bad
def gNeg (d : D) (S : Sto) : Res := match d with
  | .int i => .ok (.int (-i)) S
  | _ => .bad
def gCmpI (p : Int → Int → Bool) (d e : D) (S : Sto) : Res := match d, e with
  | .int i, .int j => .ok (.bl (p i j)) S
  | _, _ => .bad
abbrev gLt := gCmpI fun i j => decide (i < j)
abbrev gLe := gCmpI fun i j => decide (i ≤ j)
abbrev gGt := gCmpI fun i j => decide (j < i)
abbrev gGe := gCmpI fun i j => decide (j ≤ i)
section
variable {X : Cx}
theorem o_add : O2 X (binaryOp .Add) gAdd := by
  intro W pins s σ H m S d e x y v u Q I rs rd re rx ry p
  cases rd with
  | int i =>
    cases re with
    | int j => exact op_add pins s σ H _ _ v u Q I rx ry ⟨i, j, rfl, rfl, p H m _ Le.refl rs (.int _)⟩
    | _ => exact p.elim
  | str i =>
    cases re with
    | str j =>
      have p' : PV X.K W H m σ (if i.length + j.length ≤ sizeLine then .ok (.str (i ++ j)) S else .bad) Q := p
      by_cases hz : i.length + j.length ≤ sizeLine
      · rw [if_pos hz] at p'
        exact op_add_str pins s σ H _ _ v u Q I rx ry ⟨i, j, rfl, rfl, hz, p' H m _ Le.refl rs (.str _)⟩
      · rw [if_neg hz] at p'; exact p'.elim
    | _ => exact p.elim
  | tup h1 h2 =>
    cases re with
    | tup h3 h4 =>
      rename_i a xs vs b ys us
      have p' : PV X.K W H m σ (if xs.length + ys.length ≤ 1000 then .ok (.tup (xs ++ ys)) S else .bad) Q := p
      by_cases hz : xs.length + ys.length ≤ 1000
      · rw [if_pos hz] at p'
        refine op_catA pins s σ H _ _ v u Q I rx ry ⟨a, b, vs, us, rfl, rfl, h1, h3, by rw [← h2.len, ← h4.len]; exact le1000 hz, fun e => ?_, fun _ e => ?_, fun _ _ q hq => ?_⟩
        · subst e
          cases h2
          exact p' H m _ Le.refl rs (.tup h3 h4)
        · subst e
          cases h4
          rw [List.append_nil] at p'
          exact p' H m _ Le.refl rs (.tup h1 h2)
        · have l1 : Le X.K H m (upd H q (.tup (vs ++ us))) m := Le.new hq
          exact p' _ m _ l1 (rs.side hq) (.tup (SqT.of upd_same) ((h2.app h4).up l1))
      · rw [if_neg hz] at p'; exact p'.elim
    | _ => exact p.elim
  | ref h1 =>
    cases re with
    | ref h2 =>
      rename_i n a k b
      unfold gAdd at p
      cases e1 : S[n]? with
      | none => simp [e1] at p; exact p.elim
      | some c =>
        cases c with
        | lst xs =>
          cases e2 : S[k]? with
          | none => simp [e1, e2] at p; exact p.elim
          | some c2 =>
            cases c2 with
            | lst ys =>
              simp only [e1, e2] at p
              by_cases hz : xs.length + ys.length ≤ 100000
              · rw [if_pos hz] at p
                obtain ⟨a', vs, q1, q2, q3, q4⟩ := rs.list e1 (.ref h1)
                obtain ⟨b', us, q5, q6, q7, q8⟩ := rs.list e2 (.ref h2)
                cases q1
                cases q5
                refine op_cat pins s σ H _ _ v u Q I rx ry ⟨_, _, vs, us, rfl, rfl, q3, q7, by rw [← q4.len, ← q8.len]; exact Nat.le_trans hz (by decide), fun q hq => ?_⟩
                obtain ⟨l1, r1⟩ := rs.alloc hq (q4.app q8)
                exact p _ _ _ l1 r1 (.ref (by rw [← rs.len]; simp))
              · rw [if_neg hz] at p; exact p.elim
            | _ => simp [e1, e2] at p; exact p.elim
        | _ => simp [e1] at p; exact p.elim
    | _ => exact p.elim
  | _ => cases re <;> exact p.elim
theorem o_sub : O2 X (binaryOp .Sub) gSub := by
  intro W pins s σ H m S d e x y v u Q I rs rd re rx ry p
  cases rd with
  | int i =>
    cases re with
    | int j => exact op_sub pins s σ H _ _ v u Q I rx ry ⟨i, j, rfl, rfl, p H m _ Le.refl rs (.int _)⟩
    | _ => exact p.elim
  | _ => cases re <;> exact p.elim
theorem RVs.rep {K H m} {ds : List D} {vs : List V} (h : RVs K H m ds vs) : ∀ n : Nat, RVs K H m (List.replicate n ds).flatten (List.replicate n vs).flatten
  | 0 => .nil
  | n + 1 => by
    rw [List.replicate_succ, List.replicate_succ, List.flatten_cons, List.flatten_cons]
    exact h.app (RVs.rep h n)
theorem o_mul : O2 X (binaryOp .Mult) gMul := by
  intro W pins s σ H m S d e x y v u Q I rs rd re rx ry p
  cases rd with
  | int i =>
    cases re with
    | int j =>
      have p' : PV X.K W H m σ (if i.natAbs.log2 + j.natAbs.log2 < 1000000 then .ok (.int (i * j)) S else .bad) Q := p
      by_cases hz : i.natAbs.log2 + j.natAbs.log2 < 1000000
      · rw [if_pos hz] at p'
        exact op_mulW pins s σ H _ _ v u Q I rx ry ⟨i, j, rfl, rfl, hz, p' H m _ Le.refl rs (.int _)⟩
      · rw [if_neg hz] at p'; exact p'.elim
    | _ => exact p.elim
  | ref h1 =>
    cases re with
    | int k =>
      rename_i n a
      unfold gMul at p
      cases e1 : S[n]? with
      | none => simp [e1] at p; exact p.elim
      | some c =>
        cases c with
        | lst xs =>
          simp only [e1] at p
          by_cases hz : 0 ≤ k ∧ k ≤ 1000 ∧ xs.length ≤ 1000
          · rw [if_pos hz] at p
            obtain ⟨z1, z2, z3⟩ := hz
            obtain ⟨a', vs, q1, q2, q3, q4⟩ := rs.list e1 (.ref h1)
            cases q1
            have hk : k.toNat ≤ 1000 := by omega
            have hl : vs.length * k.toNat ≤ sizeLine := by
              rw [← q4.len]
              exact Nat.le_trans (Nat.mul_le_mul z3 hk) (by decide)
            refine op_rep pins s σ H _ _ v u Q I rx ry ⟨_, k, vs, rfl, rfl, q3, by omega, by omega, hl, fun q hq => ?_⟩
            obtain ⟨l1, r1⟩ := rs.alloc hq (q4.rep k.toNat)
            exact p _ _ _ l1 r1 (.ref (by rw [← rs.len]; simp))
          · rw [if_neg hz] at p; exact p.elim
        | _ => simp [e1] at p; exact p.elim
    | _ => exact p.elim
  | str x =>
    cases re with
    | int k =>
      have p' : PV X.K W H m σ (if 0 ≤ k ∧ k ≤ 1000 ∧ x.length ≤ 1000 then .ok (.str (strRep x k)) S else .bad) Q := p
      by_cases hz : 0 ≤ k ∧ k ≤ 1000 ∧ x.length ≤ 1000
      · rw [if_pos hz] at p'
        obtain ⟨z1, z2, z3⟩ := hz
        obtain ⟨t, rfl⟩ := rx
        obtain ⟨t', rfl⟩ := ry
        have q := p' H m _ Le.refl rs (.str _)
        have hk : k.toNat ≤ 1000 := by omega
        have hl : x.length * k.toNat ≤ 1000 * 1000 := Nat.mul_le_mul z3 hk
        have tl : Builtin.Str.tooLong (x.length * k.toNat) = false := by
          have h2 : x.length * k.toNat ≤ sizeLine := Nat.le_trans hl (by decide)
          unfold Builtin.Str.tooLong
          simpa using h2
        refine PySem.P.mul_str (by
          have h1 : ¬ k < -(2 ^ 63 : Int) := by omega
          have h2 : ¬ k ≥ (2 ^ 63 : Int) := by omega
          rw [decide_eq_false h1, decide_eq_false h2]; rfl) (fun h1 _ h3 => ?_) (fun _ _ => tl) ?_
        · have h4 : ((2 ^ 63 - 1 : Int) / k) ≥ (2 ^ 63 - 1 : Int) / 1000 := by
            have : (2 ^ 63 - 1 : Int) / 1000 * k ≤ 2 ^ 63 - 1 := by
              have : (2 ^ 63 - 1 : Int) / 1000 * k ≤ (2 ^ 63 - 1 : Int) / 1000 * 1000 := Int.mul_le_mul_of_nonneg_left z2 (by decide)
              exact Int.le_trans this (by decide)
            exact (Int.le_ediv_iff_mul_le (by omega)).mpr this
          have h5 : ((2 ^ 63 - 1 : Int) / 1000) ≥ 1000 := by decide
          omega
        · unfold strRep at q
          split
          · rename_i h; rw [if_pos h] at q; exact ⟨by decide, ⟨.str _, H, I.tok _, ⟨_, rfl⟩, q⟩⟩
          · rename_i h
            rw [if_neg h] at q
            split
            · rename_i h2; rw [if_pos h2] at q; exact ⟨.str _, H, I, ⟨_, rfl⟩, q⟩
            · rename_i h2
              rw [if_neg h2] at q
              exact ⟨by
                have e : (⟨(List.replicate k.toNat x.cps).foldl (· ++ ·) #[]⟩ : Str).length = x.length * k.toNat := by
                  show ((List.replicate k.toNat x.cps).foldl (· ++ ·) #[]).size = _
                  have gen : ∀ (n : Nat) (acc : Array Nat), ((List.replicate n x.cps).foldl (· ++ ·) acc).size = acc.size + x.cps.size * n := by
                    intro n
                    induction n with
                    | zero => intro acc; simp
                    | succ n ih =>
                      intro acc
                      rw [List.replicate_succ, List.foldl_cons, ih, Array.size_append, Nat.mul_succ]
                      omega
                  rw [gen]
                  simp
                  rfl
                first
                  | (rw [e]; exact tl)
                  | (rw [e]; exact Nat.le_trans hl (by decide)), ⟨.str _, H, I.tok _, ⟨_, rfl⟩, q⟩⟩
      · rw [if_neg hz] at p'; exact p'.elim
    | _ => exact p.elim
  | _ => cases re <;> exact p.elim
theorem op_quo : OpR X (binaryOp .FloorDiv) (rI (fun _ j => j ≠ 0 ∧ j.natAbs.log2 < 9000) fun i j => .int (i.fdiv j)) := opI fun _ _ _ _ _ _ _ hc q => floordiv_int hc.1 q (.inl (PyProof.noPylong_of_log2 hc.2))
theorem o_div : O2 X (binaryOp .FloorDiv) gDiv := by
  intro W pins s σ H m S d e x y v u Q I rs rd re rx ry p
  cases rd with
  | int i =>
    cases re with
    | int j =>
      have p' : PV X.K W H m σ (if j ≠ 0 ∧ j.natAbs.log2 < 9000 then .ok (.int (i.fdiv j)) S else .bad) Q := p
      by_cases hz : j ≠ 0 ∧ j.natAbs.log2 < 9000
      · rw [if_pos hz] at p'
        exact op_quo pins s σ H _ _ v u Q I rx ry ⟨i, j, rfl, rfl, hz, p' H m _ Le.refl rs (.int _)⟩
      · rw [if_neg hz] at p'; exact p'.elim
    | _ => exact p.elim
  | _ => cases re <;> exact p.elim
theorem o_mod : O2 X (binaryOp .Mod) gMod := by
  intro W pins s σ H m S d e x y v u Q I rs rd re rx ry p
  cases rd with
  | int i =>
    cases re with
    | int j =>
      have p' : PV X.K W H m σ (if 0 < j then .ok (.int (i % j)) S else .bad) Q := p
      by_cases hz : 0 < j
      · rw [if_pos hz] at p'
        exact op_mod pins s σ H _ _ v u Q I rx ry ⟨i, j, rfl, rfl, hz, p' H m _ Le.refl rs (.int _)⟩
      · rw [if_neg hz] at p'; exact p'.elim
    | _ => exact p.elim
  | _ => cases re <;> exact p.elim
theorem o_pow : O2 X (binaryOp .Pow) gPow := by
  intro W pins s σ H m S d e x y v u Q I rs rd re rx ry p
  cases rd with
  | int i =>
    cases re with
    | int j =>
      have p' : PV X.K W H m σ (if 0 ≤ j ∧ j ≤ 1000000 ∧ i.natAbs < 2 ^ 64 then .ok (.int (i ^ j.toNat)) S else .bad) Q := p
      by_cases hz : 0 ≤ j ∧ j ≤ 1000000 ∧ i.natAbs < 2 ^ 64
      · rw [if_pos hz] at p'
        exact op_pow pins s σ H _ _ v u Q I rx ry ⟨i, j, rfl, rfl, hz, p' H m _ Le.refl rs (.int _)⟩
      · rw [if_neg hz] at p'; exact p'.elim
    | _ => exact p.elim
  | _ => cases re <;> exact p.elim
theorem o_neg : O1 X (unaryOp .USub) gNeg := by
  intro W pins s σ H m S d x v Q I rs rd rx p
  cases rd with
  | int i => exact un_neg pins s σ H _ v Q I rx ⟨i, rfl, p H m _ Le.refl rs (.int _)⟩
  | _ => exact p.elim
theorem o_cmpI {f : Value → Value → Sem Value} {g : Int → Int → Bool} (h : OpR X f (rI0 fun i j => .bl (g i j))) : O2 X f (gCmpI g) := by
  intro W pins s σ H m S d e x y v u Q I rs rd re rx ry p
  cases rd with
  | int i =>
    cases re with
    | int j => exact h pins s σ H _ _ v u Q I rx ry ⟨i, j, rfl, rfl, p H m _ Le.refl rs (.bl _)⟩
    | _ => exact p.elim
  | _ => cases re <;> exact p.elim
theorem o_lt : O2 X (compareOp .Lt) gLt := o_cmpI op_lt
theorem o_le : O2 X (compareOp .LtE) gLe := o_cmpI op_le
theorem o_gt : O2 X (compareOp .Gt) gGt := o_cmpI op_gt
theorem o_ge : O2 X (compareOp .GtE) gGe := o_cmpI op_ge
end

/-! ## data as a whole: ==, repr -/
def optAll {α β : Type} (f : α → Option β) : List α → Option (List β)
  | [] => some []
  | d :: ds => match f d, optAll f ds with
    | some p, some ps => some (p :: ps)
    | _, _ => none
def toPD (S : Sto) : Nat → D → Option PyData
  | 0, _ => none
  | k + 1, d => match d with
    | .non => some .none
    | .bl b => some (.bool b)
    | .int i => some (.int i)
    | .str x => some (.str x)
    | .tup xs => (optAll (toPD S k) xs).map .tuple
    | .fl xs => (optAll (toPD S k) xs).map .list
    | .ref n => (match S[n]? with
      | some (.lst xs) => (optAll (toPD S k) xs).map .list
      | _ => none)
    | .emp => some (.dict [])
section
variable {K : PySem.W.Frag} {H : Hp} {m : List Addr} {S : Sto}
end
mutual
/-- no list in it -/
def noList : PyData → Bool
  | .list _ => false
  | .tuple xs => noListAll xs
  | _ => true
def noListAll : List PyData → Bool
  | [] => true
  | x :: xs => noList x && noListAll xs
end
section
variable {X : Cx} {pins : List (Addr × Obj)} {σ : L2.St} {H : Hp} {s : Shared} {m : List Addr} {S : Sto}
theorem readsAll_of {h : Heap} {k : Nat} (ih : ∀ {d : D} {v : V} {u : Value} {p : PyData}, RV X.K H m d v → RelV v u → toPD S k d = some p → ∃ as, Reads h u p as ∧ (noList p = true → sysModules ∉ as)) :
    ∀ {ds : List D} {vs : List V} {us : List Value} {ps : List PyData}, RVs X.K H m ds vs → Vals vs us → optAll (toPD S k) ds = some ps → ∃ as, ReadsAll h us ps as ∧ (noListAll ps = true → sysModules ∉ as)
  | _, _, _, _, .nil, .nil, h => by
    simp [optAll] at h
    subst h
    exact ⟨_, .nil, fun _ => by simp⟩
  | d :: ds, _, _, _, .cons r t, .cons ru tu, h => by
    unfold optAll at h
    cases e1 : toPD S k d with
    | none => simp [e1] at h
    | some p =>
      cases e2 : optAll (toPD S k) ds with
      | none => simp [e1, e2] at h
      | some ps =>
        simp [e1, e2] at h
        subst h
        obtain ⟨as, h1, h2⟩ := ih r ru e1
        obtain ⟨bs, h3, h4⟩ := readsAll_of ih t tu e2
        refine ⟨_, .cons h1 h3, fun hd => ?_⟩
        simp only [noListAll, Bool.and_eq_true] at hd
        simp only [List.mem_append, not_or]
        exact ⟨h2 hd.1, h4 hd.2⟩
theorem reads_of (I : Inv X pins σ H s) (rs : RS X.K H m S) : ∀ {k : Nat} {d : D} {v : V} {u : Value} {p : PyData}, RV X.K H m d v → RelV v u → toPD S k d = some p → ∃ as, Reads s.heap u p as ∧ (noList p = true → sysModules ∉ as)
  | 0, _, _, _, _, _, _, h => by simp [toPD] at h
  | k + 1, d, v, u, p, r, ru, h => by
    have lcase : ∀ {a : Addr} {vs : List V} {xs : List D} {ps : List PyData}, u = .ref a → SqL X.K H a vs → RVs X.K H m xs vs → optAll (toPD S k) xs = some ps → ∃ as, Reads s.heap u (.list ps) as ∧ (noList (.list ps) = true → sysModules ∉ as) := by
      intro a vs xs ps eu h1 h2 h3
      subst eu
      obtain ⟨its, rv, ⟨o, n, ho, hc, _, hd⟩, _⟩ := I.list h1
      obtain ⟨as, q1, q2⟩ := readsAll_of (fun r ru e => reads_of I rs r ru e) h2 rv h3
      exact ⟨_, .list ho hc hd q1, fun z => by simp [noList] at z⟩
    cases r with
    | non => simp [toPD] at h; subst h; cases ru; exact ⟨_, .none, fun _ => by simp⟩
    | bl b => simp [toPD] at h; subst h; cases ru; exact ⟨_, .bool b, fun _ => by simp⟩
    | int b => simp [toPD] at h; subst h; obtain ⟨t, rfl⟩ := ru; exact ⟨_, .int b t, fun _ => by simp⟩
    | str b => simp [toPD] at h; subst h; obtain ⟨t, rfl⟩ := ru; exact ⟨_, .str b t, fun _ => by simp⟩
    | tup h1 h2 =>
      simp only [toPD, Option.map_eq_some_iff] at h
      obtain ⟨ps, h3, rfl⟩ := h
      cases ru
      obtain ⟨its, rv, ⟨o, ho, hc, n, hd⟩, _⟩ := I.tuple h1
      obtain ⟨as, q1, q2⟩ := readsAll_of (fun r ru e => reads_of I rs r ru e) h2 rv h3
      exact ⟨_, .tuple ho hc hd q1, fun z => q2 (by simpa [noList] using z)⟩
    | fl h1 h2 =>
      simp only [toPD, Option.map_eq_some_iff] at h
      obtain ⟨ps, h3, rfl⟩ := h
      exact lcase ru h1.sq h2 h3
    | emp h1 =>
      simp [toPD] at h
      subst h
      cases ru
      obtain ⟨_, hs, vs, kv, o, es, ep, ho, hx, hd, hk, hp, _⟩ := I.hok _ _ h1
      cases kv
      have he : es.toList = [] := by
        generalize es.toList = l at hp
        cases hp
        rfl
      refine ⟨_, .dict (kvs := []) ho hx.1 hd (by rw [he]; exact .nil) (by rw [he]; exact .nil), fun _ => ?_⟩
      simp only [List.append_nil, List.mem_singleton]
      intro z
      rw [← z] at hs
      simp at hs
    | ref h1 =>
      rename_i n a
      cases e : S[n]? with
      | none => simp [toPD, e] at h
      | some c =>
        cases c with
        | lst xs =>
          simp only [toPD, e, Option.map_eq_some_iff] at h
          obtain ⟨ps, h3, rfl⟩ := h
          obtain ⟨a', vs, e1, q2, q3, q4⟩ := rs.list e (.ref h1)
          cases e1
          exact lcase ru (SqL.of q3) q4 h3
        | _ => simp [toPD, e] at h
end
def gEqD (d e : D) (S : Sto) : Res := match toPD S 60 d, toPD S 60 e with
  | some p, some q => if SeqAt.shaped p && SeqAt.shaped q then .ok (.bl (PyData.eqv p q)) S else .bad
  | _, _ => .bad
def gNeD (d e : D) (S : Sto) : Res := match toPD S 60 d, toPD S 60 e with
  | some p, some q => if SeqAt.shaped p && SeqAt.shaped q then .ok (.bl (!PyData.eqv p q)) S else .bad
  | _, _ => .bad
/-- two texts by themselves, all else by its data -/
def gEq (d e : D) (S : Sto) : Res := match d, e with
  | .str x, .str y => .ok (.bl (x == y)) S
  | _, _ => gEqD d e S
def gNe (d e : D) (S : Sto) : Res := match d, e with
  | .str x, .str y => .ok (.bl (!(x == y))) S
  | _, _ => gNeD d e S
section
variable {X : Cx}
theorem o_eqD (hu : X.A.units + 64 < cLine) : O2 X (compareOp .Eq) gEqD := by
  intro W pins s σ H m S d e x y v u Q I rs rd re rx ry p
  unfold gEqD at p
  cases e1 : toPD S 60 d with
  | none => simp [e1] at p; exact p.elim
  | some a =>
    cases e2 : toPD S 60 e with
    | none => simp [e1, e2] at p; exact p.elim
    | some b =>
      simp only [e1, e2] at p
      by_cases hz : (SeqAt.shaped a && SeqAt.shaped b) = true
      · rw [if_pos hz] at p
        obtain ⟨z1, z2⟩ := Bool.and_eq_true_iff.mp hz
        obtain ⟨as, r1, _⟩ := reads_of I rs rd rx e1
        obtain ⟨bs, r2, _⟩ := reads_of I rs re ry e2
        exact SeqAt.compareEq_shaped r1 r2 z1 z2 hu ⟨.bl _, H, I, rfl, p H m _ Le.refl rs (.bl _)⟩
      · rw [if_neg hz] at p; exact p.elim
theorem o_neD (hu : X.A.units + 64 < cLine) : O2 X (compareOp .NotEq) gNeD := by
  intro W pins s σ H m S d e x y v u Q I rs rd re rx ry p
  unfold gNeD at p
  cases e1 : toPD S 60 d with
  | none => simp [e1] at p; exact p.elim
  | some a =>
    cases e2 : toPD S 60 e with
    | none => simp [e1, e2] at p; exact p.elim
    | some b =>
      simp only [e1, e2] at p
      by_cases hz : (SeqAt.shaped a && SeqAt.shaped b) = true
      · rw [if_pos hz] at p
        obtain ⟨z1, z2⟩ := Bool.and_eq_true_iff.mp hz
        obtain ⟨as, r1, _⟩ := reads_of I rs rd rx e1
        obtain ⟨bs, r2, _⟩ := reads_of I rs re ry e2
        exact SeqAt.compareNe_shaped r1 r2 z1 z2 hu ⟨.bl _, H, I, rfl, p H m _ Le.refl rs (.bl _)⟩
      · rw [if_neg hz] at p; exact p.elim
theorem o_eq (hu : X.A.units + 64 < cLine) : O2 X (compareOp .Eq) gEq := by
  intro W pins s σ H m S d e x y v u Q I rs rd re rx ry p
  have other : gEq d e S = gEqD d e S → _ := fun h => o_eqD hu W pins s σ H m S d e x y v u Q I rs rd re rx ry (h ▸ p)
  cases rd with
  | str z =>
    cases re with
    | str z2 =>
      have e : (z == z2) = decide (V.str z = V.str z2) := by
        rw [Bool.eq_iff_iff]
        simp
      exact op_eq pins s σ H _ _ v u Q I rx ry ⟨rfl, e ▸ p H m _ Le.refl rs (.bl _)⟩
    | _ => exact other rfl
  | _ => exact other rfl
theorem o_ne (hu : X.A.units + 64 < cLine) : O2 X (compareOp .NotEq) gNe := by
  intro W pins s σ H m S d e x y v u Q I rs rd re rx ry p
  have other : gNe d e S = gNeD d e S → _ := fun h => o_neD hu W pins s σ H m S d e x y v u Q I rs rd re rx ry (h ▸ p)
  cases rd with
  | str z =>
    cases re with
    | str z2 =>
      have e : (z == z2) = decide (V.str z = V.str z2) := by
        rw [Bool.eq_iff_iff]
        simp
      exact op_ne pins s σ H _ _ v u Q I rx ry ⟨rfl, e ▸ p H m _ Le.refl rs (.bl _)⟩
    | _ => exact other rfl
  | _ => exact other rfl
end
end Z
namespace Z
open PySem PySem.Spec PyProof.Rows L2
open Builtin.Str (occurrences)

/-! ## in, is None -/
def eqF : D → D → Option Bool
  | .non, .non => some true
  | .bl a, .bl b => some (a == b)
  | .bl a, .int b => some ((if a then 1 else 0) == b)
  | .int a, .bl b => some (a == (if b then 1 else 0))
  | .int a, .int b => some (a == b)
  | .str a, .str b => some (a == b)
  | .non, .bl _ | .non, .int _ | .non, .str _ | .bl _, .non | .int _, .non | .str _, .non => some false
  | .bl _, .str _ | .int _, .str _ | .str _, .bl _ | .str _, .int _ => some false
  | _, _ => none
def anyF (x : D) : List D → Option Bool
  | [] => some false
  | y :: r => match eqF y x, anyF x r with
    | some a, some b => some (a || b)
    | _, _ => none
def gIn (neg : Bool) (d e : D) (S : Sto) : Res := match e with
  | .str z => (match d with
    | .str w => (match w.cps.toList with
      | [c] => .ok (.bl (if neg then !decide (c ∈ z.cps.toList) else decide (c ∈ z.cps.toList))) S
      | _ => .bad)
    | _ => .bad)
  | _ => (match seqOf S e with
    | some ys => (match eqF d d, anyF d ys with
      | some _, some b => .ok (.bl (if neg then !b else b)) S
      | _, _ => .bad)
    | none => .bad)
def gIsN (neg : Bool) (d e : D) (S : Sto) : Res := match e with
  | .non => .ok (.bl (match d with | .non => !neg | _ => neg)) S
  | _ => .bad
section
variable {K : PySem.W.Frag} {H : Hp} {m : List Addr} {S : Sto}
theorem eqF_flat {x y : D} {v u : V} {b : Bool} (rx : RV K H m x v) (ry : RV K H m y u) (h : eqF y x = some b) : flatV v = true ∧ flatV u = true ∧ eqV u v = b := by
  cases ry <;> cases rx <;> first
    | (simp [eqF] at h; done)
    | (simp only [eqF, Option.some.injEq] at h; subst h; exact ⟨rfl, rfl, rfl⟩)
    | (simp only [eqF, Option.some.injEq] at h; subst h; exact ⟨rfl, rfl, by simp [eqV]⟩)
theorem anyF_flat {x : D} {v : V} (rx : RV K H m x v) : ∀ {ys : List D} {us : List V} {b : Bool}, RVs K H m ys us → anyF x ys = some b → us.all flatV = true ∧ inV v us = b
  | _, _, _, .nil, h => by simp [anyF] at h; subst h; exact ⟨rfl, rfl⟩
  | y :: ys, _, b, .cons r t, h => by
    unfold anyF at h
    cases e1 : eqF y x with
    | none => simp [e1] at h
    | some a =>
      cases e2 : anyF x ys with
      | none => simp [e1, e2] at h
      | some c =>
        simp only [e1, e2, Option.some.injEq] at h
        obtain ⟨_, h2, h3⟩ := eqF_flat rx r e1
        obtain ⟨h4, h5⟩ := anyF_flat rx t e2
        refine ⟨by rw [List.all_cons, h2, h4]; rfl, ?_⟩
        unfold inV at h5 ⊢
        rw [List.any_cons, h3, h5]
        exact h
end
section
variable {X : Cx}
theorem o_inG {op : CmpOp} {neg : Bool} (h1 : OpR X (compareOp op) (rIn X.K neg)) (h2 : OpR X (compareOp op) (fun x y H Q => ∃ (c : Nat) (z : Str), x = .str ⟨#[c]⟩ ∧ y = .str z ∧ Q (.bl (if neg then !decide (c ∈ z.cps.toList) else decide (c ∈ z.cps.toList))) H)) : O2 X (compareOp op) (gIn neg) := by
  intro W pins s σ H m S d e x y v u Q I rs rd re rx ry p
  have seqCase : ∀ ys, seqOf S e = some ys → PV X.K W H m σ (match eqF d d, anyF d ys with | some _, some b => .ok (.bl (if neg then !b else b)) S | _, _ => .bad) Q → wpAny (model X.prog X.w) X.A (compareOp op v u) (EP X pins σ Q) X.xe s := by
    intro ys e1 p
    obtain ⟨a, vs, rfl, hs, hv⟩ := seq_at rs re e1
    cases e2 : eqF d d with
    | none => simp [e2] at p; exact p.elim
    | some b0 =>
      cases e3 : anyF d ys with
      | none => simp [e2, e3] at p; exact p.elim
      | some b =>
        simp only [e2, e3] at p
        obtain ⟨f1, _, _⟩ := eqF_flat rd rd e2
        obtain ⟨f2, f3⟩ := anyF_flat rd hv e3
        refine h1 pins s σ H _ _ v u Q I rx ry ⟨a, vs, rfl, hs, f1, f2, ?_⟩
        rw [f3]
        exact p H m _ Le.refl rs (.bl _)
  cases re with
  | str z =>
    cases rd with
    | str w =>
      obtain ⟨⟨l⟩⟩ := w
      cases l with
      | nil => exact p.elim
      | cons c r =>
        cases r with
        | nil => exact h2 pins s σ H _ _ v u Q I rx ry ⟨c, z, rfl, rfl, p H m _ Le.refl rs (.bl _)⟩
        | cons c2 r2 => exact p.elim
    | _ => exact p.elim
  | tup h3 h4 => exact seqCase _ rfl p
  | fl h3 h4 => exact seqCase _ rfl p
  | ref h3 =>
    rename_i n a
    cases e1 : seqOf S (.ref n) with
    | none =>
      have p' : PV X.K W H m σ (match seqOf S (.ref n) with | some ys => (match eqF d d, anyF d ys with | some _, some b => .ok (.bl (if neg then !b else b)) S | _, _ => .bad) | none => .bad) Q := p
      rw [e1] at p'
      exact p'.elim
    | some ys =>
      have p' : PV X.K W H m σ (match seqOf S (.ref n) with | some ys => (match eqF d d, anyF d ys with | some _, some b => .ok (.bl (if neg then !b else b)) S | _, _ => .bad) | none => .bad) Q := p
      rw [e1] at p'
      exact seqCase ys e1 p'
  | _ => exact p.elim
theorem o_in : O2 X (compareOp .In) (gIn false) := o_inG op_in_seq op_in_sign
theorem o_notin : O2 X (compareOp .NotIn) (gIn true) := o_inG op_notIn_seq op_notIn_sign
theorem o_is : O2 X (compareOp .Is) (gIsN false) := by
  intro W pins s σ H m S d e x y v u Q I rs rd re rx ry p
  cases re with
  | non =>
    refine op_isN pins s σ H _ _ v u Q I rx ry ⟨rfl, ?_⟩
    cases rd <;> exact p H m _ Le.refl rs (.bl _)
  | _ => exact p.elim
theorem o_isnot : O2 X (compareOp .IsNot) (gIsN true) := by
  intro W pins s σ H m S d e x y v u Q I rs rd re rx ry p
  cases re with
  | non =>
    refine op_notN pins s σ H _ _ v u Q I rx ry ⟨rfl, ?_⟩
    cases rd <;> exact p H m _ Le.refl rs (.bl _)
  | _ => exact p.elim
end

/-! ## items and slices -/
theorem RVs.atI {K H m} {ds : List D} {vs : List V} {i : Int} {d : D} (h : RVs K H m ds vs) (e : L2.atI ds i = some d) : ∃ v, L2.atI vs i = some v ∧ RV K H m d v := by
  unfold L2.atI at e ⊢
  rw [← h.len]
  cases q : ixN ds.length i with
  | none => rw [q] at e; cases e
  | some j =>
    rw [q] at e
    exact h.at e
def gIx (d e : D) (S : Sto) : Res := match e with
  | .int i => (match d with
    | .str z => if z.length ≤ sizeLine then (match L2.atI z.cps.toList i with
      | some c => .ok (.str ⟨#[c]⟩) S
      | none => .bad) else .bad
    | _ => (match seqOf S d with
      | some xs => (match L2.atI xs i with
        | some y => .ok y S
        | none => .bad)
      | none => .bad))
  | _ => .bad
def cutL {α : Type} (xs : List α) (lo hi : Option Int) : List α := (xs.drop (HT.sIx xs.length 0 lo)).take (HT.sIx xs.length xs.length hi - HT.sIx xs.length 0 lo)
theorem cutL_V (xs : List V) (lo hi : Option Int) : cutL xs lo hi = cutV xs lo hi := rfl
theorem RVs.cut {K H m} {ds : List D} {vs : List V} (h : RVs K H m ds vs) (lo hi : Option Int) : RVs K H m (cutL ds lo hi) (cutV vs lo hi) := by
  unfold cutL cutV
  rw [h.len]
  exact (h.drop _).take _
def vInt (f : FE) : FE := fun E S => (f E S).bind fun d S1 => match d with
  | .int _ => .ok d S1
  | _ => .bad
def oPart : D → Option (Option Int)
  | .non => some none
  | .int i => some (some i)
  | _ => none
def gSl (d : D) (lo hi : Option Int) (S : Sto) : Res := match d with
  | .str z => if z.length ≤ sizeLine then .ok (.str (cutS z lo hi)) S else .bad
  | .tup xs => .ok (.tup (cutL xs lo hi)) S
  | _ => (match listOf S d with
    | some xs => .ok (.ref S.length) (S ++ [.lst (cutL xs lo hi)])
    | none => .bad)
/-- parts are given as None or numbers -/
def vSl (f lo hi : FE) : FE := fun E S => (f E S).bind fun x S1 => (lo E S1).bind fun a S2 => match oPart a with
  | none => .bad
  | some i => (hi E S2).bind fun b S3 => match oPart b with
    | none => .bad
    | some j => gSl x i j S3
def tO (K : PySem.W.Frag) (W : WX) (f : FE) : TO := fun σ H Q => tE K W f σ H fun v H1 => match v with
  | .non => Q none H1
  | .int i => Q (some i) H1
  | _ => False
section
variable {X : Cx} {W : WX} {pos p2 : Pos}
theorem o_ix : IxR X (fun x y H Q => ∃ W pins s σ m S d e, Inv X pins σ H s ∧ RS X.K H m S ∧ RV X.K H m d x ∧ RV X.K H m e y ∧ PV X.K W H m σ (gIx d e S) Q) := by
  intro value slice pins s σ H x y v u Q I rx ry ⟨W, pins', s', σ', m, S, d, e, I', rs, rd, re, p⟩ hs
  have seqCase : ∀ i xs, y = .int i → seqOf S d = some xs → PV X.K W H m σ' (match L2.atI xs i with | some y => .ok y S | none => .bad) Q → wpAny (model X.prog X.w) X.A (subscriptTail value slice v u) (EP X pins σ Q) X.xe s := by
    intro i xs ey e1 p
    subst ey
    obtain ⟨a, vs, rfl, hs', hv⟩ := seq_at rs rd e1
    cases e2 : L2.atI xs i with
    | none => rw [e2] at p; exact p.elim
    | some z =>
      rw [e2] at p
      obtain ⟨w', h1, h2⟩ := hv.atI e2
      rcases hs' with hs' | hs'
      · exact ix_list value slice pins s σ H _ _ v u Q I rx ry ⟨a, vs, i, w', rfl, rfl, hs', h1, p H m _ Le.refl rs h2⟩ hs
      · exact ix_tup value slice pins s σ H _ _ v u Q I rx ry ⟨a, vs, i, w', rfl, rfl, hs', h1, p H m _ Le.refl rs h2⟩ hs
  cases re with
  | int i =>
    cases rd with
    | str z =>
      have p' : PV X.K W H m σ' (if z.length ≤ sizeLine then (match L2.atI z.cps.toList i with | some c => .ok (.str ⟨#[c]⟩) S | none => .bad) else .bad) Q := p
      by_cases hz : z.length ≤ sizeLine
      · rw [if_pos hz] at p'
        cases e2 : L2.atI z.cps.toList i with
        | none => rw [e2] at p'; exact p'.elim
        | some c =>
          rw [e2] at p'
          exact ix_str value slice pins s σ H _ _ v u Q I rx ry ⟨z, i, c, rfl, rfl, hz, e2, p' H m _ Le.refl rs (.str _)⟩ hs
      · rw [if_neg hz] at p'; exact p'.elim
    | tup h1 h2 => exact seqCase i _ rfl rfl p
    | fl h1 h2 => exact seqCase i _ rfl rfl p
    | ref h1 =>
      rename_i n a
      have p' : PV X.K W H m σ' (match seqOf S (.ref n) with | some xs => (match L2.atI xs i with | some y => .ok y S | none => .bad) | none => .bad) Q := p
      cases e1 : seqOf S (.ref n) with
      | none => rw [e1] at p'; exact p'.elim
      | some xs => rw [e1] at p'; exact seqCase i xs rfl e1 p'
    | _ => exact p.elim
  | _ => exact p.elim
theorem e_ix {a b : Expr} {f1 f2 : FE} (ha : PE X a (tE X.K W f1)) (hb : PE X b (tE X.K W f2)) (hs : PlainIx b) : PE X (.Subscript a b pos) (tE X.K W (vBin gIx f1 f2)) := by
  refine ⟨fun pins s σ H Q I h => ?_⟩
  refine Subscript_ (binT ha hb I (tE.two h) (f := fun v u => subscriptTail a b v u) fun v u s2 x y H2 I2 rx ry ⟨m, S, d, e, rs, rd, re, p⟩ => ?_)
  exact o_ix a b pins s2 σ H2 x y v u Q I2 rx ry ⟨W, pins, s2, σ, m, S, d, e, I2, rs, rd, re, p⟩ (hs v u)
theorem p_none : PO X none (tO X.K W (vC .non)) := ⟨fun pins s σ H Q I ⟨m, E, S, re, rs, p⟩ => po_none.run pins s σ H Q I (p H m _ Le.refl rs .non)⟩
theorem p_some {e : Expr} {f : FE} (he : PE X e (tE X.K W f)) : PO X (some e) (tO X.K W (vInt f)) := by
  refine ⟨fun pins s σ H Q I h => (po_some he).run pins s σ H Q I ?_⟩
  refine (tE.then (k := fun _ d S1 => match d with | .int _ => .ok d S1 | _ => .bad) h).mono fun v H1 ⟨m, E, S, d, re, rs, rv, p⟩ => ?_
  cases rv with
  | int i => exact ⟨i, rfl, p H1 m _ Le.refl rs (.int i)⟩
  | _ => exact p.elim
theorem sl_all : SlR X (fun x lo hi H Q => ∃ W σ m S d, RS X.K H m S ∧ RV X.K H m d x ∧ PV X.K W H m σ (gSl d lo hi S) Q) := by
  intro pins s σ H x v vl vu lo hi sl Q I rx hs pl pu ⟨W, σ', m, S, d, rs, rd, p⟩
  have listCase : ∀ xs, listOf S d = some xs → PV X.K W H m σ' (.ok (.ref S.length) (S ++ [.lst (cutL xs lo hi)])) Q → ∃ T id, typeLookup (.type T) "__getitem__" = pure (some (.builtin id)) ∧ s.TypeIs v T ∧ wpAny (model X.prog X.w) X.A (getItem v (.ref sl)) (EP X pins σ Q) X.xe s := by
    intro xs e1 p
    obtain ⟨a, vs, rfl, h1, h2⟩ := list_at rs rd e1
    refine sl_list pins s σ H _ v vl vu lo hi sl Q I rx hs pl pu ⟨a, vs, rfl, h1, fun q hq => ?_⟩
    obtain ⟨l1, r1⟩ := rs.alloc hq (h2.cut lo hi)
    exact p _ _ _ l1 r1 (.ref (by rw [← rs.len]; simp))
  cases rd with
  | str z =>
    have p' : PV X.K W H m σ' (if z.length ≤ sizeLine then .ok (.str (cutS z lo hi)) S else .bad) Q := p
    by_cases hz : z.length ≤ sizeLine
    · rw [if_pos hz] at p'
      exact sl_str pins s σ H _ v vl vu lo hi sl Q I rx hs pl pu ⟨z, rfl, hz, p' H m _ Le.refl rs (.str _)⟩
    · rw [if_neg hz] at p'; exact p'.elim
  | tup h1 h2 =>
    rename_i a xs vs
    refine sl_tupA pins s σ H _ v vl vu lo hi sl Q I rx hs pl pu ⟨a, vs, rfl, h1, fun hw => ?_, fun _ q hq => ?_⟩
    · have e : cutL xs lo hi = xs := by
        unfold cutL
        rw [h2.len, hw.1, hw.2, ← h2.len]
        simp
      have p' : PV X.K W H m σ' (.ok (.tup (cutL xs lo hi)) S) Q := p
      rw [e] at p'
      exact p' H m _ Le.refl rs (.tup h1 h2)
    · have l1 : Le X.K H m (upd H q (.tup (cutV vs lo hi))) m := Le.new hq
      exact p _ m _ l1 (rs.side hq) (.tup (SqT.of upd_same) ((h2.cut lo hi).up l1))
  | fl h1 h2 => exact listCase _ rfl p
  | ref h1 =>
    rename_i n a
    have p' : PV X.K W H m σ' (match listOf S (.ref n) with | some xs => .ok (.ref S.length) (S ++ [.lst (cutL xs lo hi)]) | none => .bad) Q := p
    cases e1 : listOf S (.ref n) with
    | none => rw [e1] at p'; exact p'.elim
    | some xs => rw [e1] at p'; exact listCase xs e1 p'
  | _ => exact p.elim
theorem e_sl {e : Expr} {lo hi : Option Expr} {f l u : FE} (he : PE X e (tE X.K W f)) (hl : PO X lo (tO X.K W l)) (hu : PO X hi (tO X.K W u)) : PE X (.Subscript e (.Slice lo hi none p2) pos) (tE X.K W (vSl f l u)) := by
  refine ⟨fun pins s σ H Q I h => (pe_slice sl_all he hl hu).run pins s σ H Q I ?_⟩
  refine (tE.then (k := fun E x S1 => (l E S1).bind fun a S2 => match oPart a with | none => .bad | some i => (u E S2).bind fun b S3 => match oPart b with | none => .bad | some j => gSl x i j S3) h).mono fun v H1 ⟨m, E, S, d, re, rs, rv, p⟩ => ?_
  show tE X.K W l σ H1 _
  refine ⟨m, E, S, re, rs, ?_⟩
  cases e1 : l E S with
  | exc c fs S1 => rw [e1] at p; exact p
  | bad => rw [e1] at p; exact p
  | ok a S1 =>
    rw [e1] at p
    intro H2 m2 va l2 rs2 ra
    have key : ∀ i, PV X.K W H2 m2 σ ((u E S1).bind fun b S3 => match oPart b with | none => .bad | some j => gSl d i j S3) Q →
        tO X.K W u σ H2 fun j H3 => ∃ W σ m S d, RS X.K H3 m S ∧ RV X.K H3 m d v ∧ PV X.K W H3 m σ (gSl d i j S) Q := by
      intro i p2
      refine ⟨m2, E, S1, re.up l2, rs2, ?_⟩
      cases e2 : u E S1 with
      | exc c fs S2 => rw [e2] at p2; exact p2
      | bad => rw [e2] at p2; exact p2
      | ok b S2 =>
        rw [e2] at p2
        intro H3 m3 vb l3 rs3 rb
        have p3 := PV.re l3 p2
        have rd3 : RV X.K H3 m3 d v := (rv.up l2).up l3
        cases rb with
        | non => exact ⟨W, σ, m3, S2, d, rs3, rd3, p3⟩
        | int j => exact ⟨W, σ, m3, S2, d, rs3, rd3, p3⟩
        | _ => exact p3.elim
    have p2 := PV.re l2 p
    cases ra with
    | non => exact key none p2
    | int i => exact key (some i) p2
    | _ => exact p2.elim
end
end Z
namespace Z
open PySem PySem.Spec PyProof.Rows L2

/-! ## builtins called -/
def gLen (ds : List D) (S : Sto) : Res := match ds with
  | [.str z] => if z.length ≤ sizeLine then .ok (.int z.length) S else .bad
  | [d] => (match seqOf S d with
    | some xs => .ok (.int xs.length) S
    | none => .bad)
  | _ => .bad
def gAbs (ds : List D) (S : Sto) : Res := match ds with
  | [.int i] => .ok (.int (if i < 0 then -i else i)) S
  | _ => .bad
def gInt (ds : List D) (S : Sto) : Res := match ds with
  | [.int i] => .ok (.int i) S
  | [.bl k] => .ok (.int (if k then 1 else 0)) S
  | [.str a] => (match PySem.intText? a with
    | some n => if a.length ≤ 640 then .ok (.int n) S else .bad
    | none => .bad)
  | _ => .bad
def gStr (ds : List D) (S : Sto) : Res := match ds with
  | [.int i] => if i.natAbs.log2 < 1920 then .ok (.str (toString i)) S else .bad
  | [.str a] => .ok (.str a) S
  | _ => .bad
def gAll (ds : List D) (S : Sto) : Res := match ds with
  | [d] => (match listOf S d with
    | some xs => (match blsOf xs with
      | some bs => .ok (.bl (bs.all id)) S
      | none => .bad)
    | none => .bad)
  | _ => .bad
def gAny (ds : List D) (S : Sto) : Res := match ds with
  | [d] => (match listOf S d with
    | some xs => (match blsOf xs with
      | some bs => .ok (.bl (bs.any id)) S
      | none => .bad)
    | none => .bad)
  | _ => .bad
def gSum (ds : List D) (S : Sto) : Res := match ds with
  | [d] => (match listOf S d with
    | some xs => (match intsOf xs with
      | some bs => .ok (.int bs.sum) S
      | none => .bad)
    | none => .bad)
  | _ => .bad
def gMax2 (ds : List D) (S : Sto) : Res := match ds with
  | [.int i, .int j] => .ok (.int (if j > i then j else i)) S
  | _ => .bad
def gMin2 (ds : List D) (S : Sto) : Res := match ds with
  | [.int i, .int j] => .ok (.int (if j < i then j else i)) S
  | _ => .bad
def gTuple (ds : List D) (S : Sto) : Res := match ds with
  | [d] => (match seqOf S d with
    | some xs => .ok (.tup xs) S
    | none => .bad)
  | _ => .bad
def gList (ds : List D) (S : Sto) : Res := match ds with
  | [d] => (match seqOf S d with
    | some xs => .ok (.ref S.length) (S ++ [.lst xs])
    | none => .bad)
  | _ => .bad
def gGcd (ds : List D) (S : Sto) : Res := match ds with
  | [.int a, .int b] => .ok (.int ((Nat.gcd a.natAbs b.natAbs : Nat) : Int)) S
  | _ => .bad
def gRepr (ds : List D) (S : Sto) : Res := match ds with
  | [d] => (match toPD S 40 d with
    | some p => if p.showable && (!p.hasDict || noList p) && decide (p.depth ≤ 60) && decide (p.shown.length ≤ sizeLine) then .ok (.str p.shown) S else .bad
    | none => .bad)
  | _ => .bad
section
variable {X : Cx} {W : WX}
/-- one argument -/
theorem oc1 {f : Value} {g : List D → Sto → Res} (h0 : ∀ S ds, (∀ d, ds ≠ [d]) → g ds S = .bad)
    (h : ∀ (W : WX) (pins : List (Addr × Obj)) (s : Shared) (σ : L2.St) (H : Hp) (m : List Addr) (S : Sto) (d : D) (x : V) (us : List Value) (Q : VK), Inv X pins σ H s → RS X.K H m S → RV X.K H m d x → Vals [x] us → PV X.K W H m σ (g [d] S) Q → wpAny (model X.prog X.w) X.A (call f us) (EP X pins σ Q) X.xe s) : OC X f g := by
  intro W pins s σ H m S ds xs us Q I rs rd r p
  by_cases e : ∃ d, ds = [d]
  · obtain ⟨d, rfl⟩ := e
    cases rd with
    | cons r1 r2 =>
      cases r2
      exact h W pins s σ H m S d _ us Q I rs r1 r p
  · rw [h0 S ds (fun d z => e ⟨d, z⟩)] at p
    exact p.elim
theorem c_len : OC X (.builtin "len") gLen := by
  refine oc1 (fun S ds h => ?_) fun W pins s σ H m S d x us Q I rs rd r p => ?_
  · unfold gLen
    split
    · exact absurd rfl (h _)
    · exact absurd rfl (h _)
    · rfl
  · have seqCase : PV X.K W H m σ (match seqOf S d with | some xs => .ok (.int xs.length) S | none => .bad) Q → wpAny (model X.prog X.w) X.A (call (.builtin "len") us) (EP X pins σ Q) X.xe s := by
      intro p
      cases e1 : seqOf S d with
      | none => rw [e1] at p; exact p.elim
      | some xs =>
        rw [e1] at p
        obtain ⟨a, vs, rfl, h1, h2⟩ := seq_at rs rd e1
        refine call_len_seq pins s σ H _ us Q I r ⟨a, vs, rfl, h1, ?_⟩
        rw [← h2.len]
        exact p H m _ Le.refl rs (.int _)
    cases rd with
    | str z =>
      have p' : PV X.K W H m σ (if z.length ≤ sizeLine then .ok (.int z.length) S else .bad) Q := p
      by_cases hz : z.length ≤ sizeLine
      · rw [if_pos hz] at p'
        exact call_len_str pins s σ H _ us Q I r ⟨z, rfl, hz, p' H m _ Le.refl rs (.int _)⟩
      · rw [if_neg hz] at p'; exact p'.elim
    | _ => exact seqCase p
theorem c_abs : OC X (.builtin "abs") gAbs := by
  refine oc1 (fun S ds h => ?_) fun W pins s σ H m S d x us Q I rs rd r p => ?_
  · unfold gAbs
    split
    · exact absurd rfl (h _)
    · rfl
  · cases rd with
    | int i => exact call_abs pins s σ H _ us Q I r ⟨i, rfl, p H m _ Le.refl rs (.int _)⟩
    | _ => exact p.elim
theorem c_int : OC X (.type "int") gInt := by
  refine oc1 (fun S ds h => ?_) fun W pins s σ H m S d x us Q I rs rd r p => ?_
  · unfold gInt
    split <;> first
      | exact absurd rfl (h _)
      | rfl
  · cases rd with
    | int i => exact call_int1 pins s σ H _ us Q I r (.inl ⟨i, rfl, p H m _ Le.refl rs (.int _)⟩)
    | bl i => exact call_int1 pins s σ H _ us Q I r (.inr ⟨i, rfl, p H m _ Le.refl rs (.int _)⟩)
    | str a =>
      have p' : PV X.K W H m σ (match PySem.intText? a with | some n => if a.length ≤ 640 then .ok (.int n) S else .bad | none => .bad) Q := p
      cases e : PySem.intText? a with
      | none => rw [e] at p'; exact p'.elim
      | some n =>
        rw [e] at p'
        by_cases hz : a.length ≤ 640
        · dsimp only at p'
          rw [if_pos hz] at p'
          exact call_int_str pins s σ H _ us Q I r ⟨a, n, rfl, e, hz, p' H m _ Le.refl rs (.int _)⟩
        · dsimp only at p'
          rw [if_neg hz] at p'; exact p'.elim
    | _ => exact p.elim
theorem c_str : OC X (.type "str") gStr := by
  refine oc1 (fun S ds h => ?_) fun W pins s σ H m S d x us Q I rs rd r p => ?_
  · unfold gStr
    split <;> first
      | exact absurd rfl (h _)
      | rfl
  · cases rd with
    | int i =>
      have p' : PV X.K W H m σ (if i.natAbs.log2 < 1920 then .ok (.str (toString i)) S else .bad) Q := p
      by_cases hz : i.natAbs.log2 < 1920
      · rw [if_pos hz] at p'
        exact call_str_int pins s σ H _ us Q I r ⟨i, rfl, hz, p' H m _ Le.refl rs (.str _)⟩
      · rw [if_neg hz] at p'; exact p'.elim
    | str a => exact SkE.call_str_str pins s σ H _ us Q I r ⟨a, rfl, p H m _ Le.refl rs (.str _)⟩
    | _ => exact p.elim
theorem c_all (hc : X.calm = true) : OC X (.builtin "all") gAll := by
  refine oc1 (fun S ds h => ?_) fun W pins s σ H m S d x us Q I rs rd r p => ?_
  · unfold gAll
    split <;> first
      | exact absurd rfl (h _)
      | rfl
  · have p' : PV X.K W H m σ (match listOf S d with | some xs => (match blsOf xs with | some bs => .ok (.bl (bs.all id)) S | none => .bad) | none => .bad) Q := p
    cases e1 : listOf S d with
    | none => rw [e1] at p'; exact p'.elim
    | some xs =>
      rw [e1] at p'
      dsimp only at p'
      cases e2 : blsOf xs with
      | none => rw [e2] at p'; exact p'.elim
      | some bs =>
        rw [e2] at p'
        obtain ⟨a, vs, rfl, h1, h2⟩ := list_at rs rd e1
        rw [blsOf_eq e2] at h2
        rw [h2.bls] at h1
        exact cr_all hc pins s σ H _ us Q I r ⟨a, bs, rfl, h1, p' H m _ Le.refl rs (.bl _)⟩
theorem c_any (hc : X.calm = true) : OC X (.builtin "any") gAny := by
  refine oc1 (fun S ds h => ?_) fun W pins s σ H m S d x us Q I rs rd r p => ?_
  · unfold gAny
    split <;> first
      | exact absurd rfl (h _)
      | rfl
  · have p' : PV X.K W H m σ (match listOf S d with | some xs => (match blsOf xs with | some bs => .ok (.bl (bs.any id)) S | none => .bad) | none => .bad) Q := p
    cases e1 : listOf S d with
    | none => rw [e1] at p'; exact p'.elim
    | some xs =>
      rw [e1] at p'
      dsimp only at p'
      cases e2 : blsOf xs with
      | none => rw [e2] at p'; exact p'.elim
      | some bs =>
        rw [e2] at p'
        obtain ⟨a, vs, rfl, h1, h2⟩ := list_at rs rd e1
        rw [blsOf_eq e2] at h2
        rw [h2.bls] at h1
        exact cr_any hc pins s σ H _ us Q I r ⟨a, bs, rfl, h1, p' H m _ Le.refl rs (.bl _)⟩
theorem c_sum (hc : X.calm = true) : OC X (.builtin "sum") gSum := by
  refine oc1 (fun S ds h => ?_) fun W pins s σ H m S d x us Q I rs rd r p => ?_
  · unfold gSum
    split <;> first
      | exact absurd rfl (h _)
      | rfl
  · have p' : PV X.K W H m σ (match listOf S d with | some xs => (match intsOf xs with | some bs => .ok (.int bs.sum) S | none => .bad) | none => .bad) Q := p
    cases e1 : listOf S d with
    | none => rw [e1] at p'; exact p'.elim
    | some xs =>
      rw [e1] at p'
      dsimp only at p'
      cases e2 : intsOf xs with
      | none => rw [e2] at p'; exact p'.elim
      | some bs =>
        rw [e2] at p'
        obtain ⟨a, vs, rfl, h1, h2⟩ := list_at rs rd e1
        rw [intsOf_eq e2] at h2
        rw [h2.ints] at h1
        exact cr_sum hc pins s σ H _ us Q I r ⟨a, bs, rfl, h1, p' H m _ Le.refl rs (.int _)⟩
theorem oc2I {f : Value} {g : List D → Sto → Res} {k : Int → Int → Int} (h0 : ∀ S ds, (∀ i j, ds ≠ [.int i, .int j]) → g ds S = .bad) (h1 : ∀ S i j, g [.int i, .int j] S = .ok (.int (k i j)) S)
    (h : CallR X f (fun xs H Q => ∃ i j, xs = [.int i, .int j] ∧ Q (.int (k i j)) H)) : OC X f g := by
  intro W pins s σ H m S ds xs us Q I rs rd r p
  by_cases e : ∃ i j, ds = [.int i, .int j]
  · obtain ⟨i, j, rfl⟩ := e
    cases rd with
    | cons r1 r2 =>
      cases r1
      cases r2 with
      | cons r1 r3 =>
        cases r1
        cases r3
        rw [h1] at p
        exact h pins s σ H _ us Q I r ⟨i, j, rfl, p H m _ Le.refl rs (.int _)⟩
  · rw [h0 S ds (fun i j z => e ⟨i, j, z⟩)] at p
    exact p.elim
theorem c_max2 (hc : X.calm = true) : OC X (.builtin "max") gMax2 := by
  refine oc2I (fun S ds h => ?_) (fun _ _ _ => rfl) (call_max2 hc)
  unfold gMax2
  split
  · exact absurd rfl (h _ _)
  · rfl
theorem c_min2 (hc : X.calm = true) : OC X (.builtin "min") gMin2 := by
  refine oc2I (fun S ds h => ?_) (fun _ _ _ => rfl) (call_min2 hc)
  unfold gMin2
  split
  · exact absurd rfl (h _ _)
  · rfl
theorem c_gcd : OC X (.builtin "math.gcd") gGcd := by
  refine oc2I (fun S ds h => ?_) (fun _ _ _ => rfl) (fun pins s σ H xs us Q I r h => cr_gcd pins s σ H xs us Q I r h)
  unfold gGcd
  split
  · exact absurd rfl (h _ _)
  · rfl
theorem c_tuple : OC X (.type "tuple") gTuple := by
  refine oc1 (fun S ds h => ?_) fun W pins s σ H m S d x us Q I rs rd r p => ?_
  · unfold gTuple
    split <;> first
      | exact absurd rfl (h _)
      | rfl
  · have listCase : ∀ xs, listOf S d = some xs → PV X.K W H m σ (.ok (.tup xs) S) Q → wpAny (model X.prog X.w) X.A (call (.type "tuple") us) (EP X pins σ Q) X.xe s := by
      intro xs e1 p
      obtain ⟨a, vs, rfl, h1, h2⟩ := list_at rs rd e1
      refine call_tuple_of pins s σ H _ us Q I r ⟨a, vs, rfl, .inl ⟨h1, fun q hq => ?_⟩⟩
      have l1 : Le X.K H m (upd H q (.tup vs)) m := Le.new hq
      exact p _ m _ l1 (rs.side hq) (.tup (SqT.of upd_same) (h2.up l1))
    cases rd with
    | tup h1 h2 => exact call_tuple_of pins s σ H _ us Q I r ⟨_, _, rfl, .inr ⟨h1, p H m _ Le.refl rs (.tup h1 h2)⟩⟩
    | fl h1 h2 => exact listCase _ rfl p
    | ref h1 =>
      rename_i n a
      have p' : PV X.K W H m σ (match seqOf S (.ref n) with | some xs => .ok (.tup xs) S | none => .bad) Q := p
      cases e1 : seqOf S (.ref n) with
      | none => rw [e1] at p'; exact p'.elim
      | some xs => rw [e1] at p'; exact listCase xs e1 p'
    | _ => exact p.elim
theorem c_list : OC X (.type "list") gList := by
  refine oc1 (fun S ds h => ?_) fun W pins s σ H m S d x us Q I rs rd r p => ?_
  · unfold gList
    split <;> first
      | exact absurd rfl (h _)
      | rfl
  · have p' : PV X.K W H m σ (match seqOf S d with | some xs => .ok (.ref S.length) (S ++ [.lst xs]) | none => .bad) Q := p
    cases e1 : seqOf S d with
    | none => rw [e1] at p'; exact p'.elim
    | some xs =>
      rw [e1] at p'
      obtain ⟨a, vs, rfl, h1, h2⟩ := seq_at rs rd e1
      refine call_list_of pins s σ H _ us Q I r ⟨a, vs, rfl, h1, fun q hq => ?_⟩
      obtain ⟨l1, r1⟩ := rs.alloc hq h2
      exact p' _ _ _ l1 r1 (.ref (by rw [← rs.len]; simp))
theorem c_repr (hg : X.A.guards = some []) (hu : X.A.units + 64 < cLine) : OC X (.builtin "repr") gRepr := by
  refine oc1 (fun S ds h => ?_) fun W pins s σ H m S d x us Q I rs rd r p => ?_
  · unfold gRepr
    split <;> first
      | exact absurd rfl (h _)
      | rfl
  · obtain ⟨u, rfl, ru⟩ := Vals.one r
    have gen : PV X.K W H m σ (match toPD S 40 d with | some p => if p.showable && (!p.hasDict || noList p) && decide (p.depth ≤ 60) && decide (p.shown.length ≤ sizeLine) then .ok (.str p.shown) S else .bad | none => .bad) Q →
        wpAny (model X.prog X.w) X.A (call (.builtin "repr") [u]) (EP X pins σ Q) X.xe s := by
      intro p'
      cases e1 : toPD S 40 d with
      | none => rw [e1] at p'; exact p'.elim
      | some pd =>
        rw [e1] at p'
        dsimp only at p'
        by_cases hz : (pd.showable && (!pd.hasDict || noList pd) && decide (pd.depth ≤ 60) && decide (pd.shown.length ≤ sizeLine)) = true
        · rw [if_pos hz] at p'
          simp only [Bool.and_eq_true, Bool.or_eq_true, Bool.not_eq_true', decide_eq_true_eq] at hz
          obtain ⟨⟨⟨z1, z2⟩, z3⟩, z4⟩ := hz
          have q := p' H m _ Le.refl rs (.str _)
          obtain ⟨as, hr, hn⟩ := reads_of I rs rd ru e1
          have hsm : pd.hasDict = true → sysModules ∉ as := fun h => by
            rcases z2 with z | z
            · rw [z] at h; cases h
            · exact hn z
          have key : ∀ a, u = .ref a → wpAny (model X.prog X.w) X.A (call (.builtin "repr") [u]) (EP X pins σ Q) X.xe s := by
            intro a ea
            subst ea
            refine repr_of_reads' hr z1 hsm hg (by omega) (fun _ _ e => e) (fun h' u' tk hk => ?_) z4
            exact ⟨.str pd.shown, H, I.kept (t' := tk) hk, ⟨_, rfl⟩, q⟩
          cases rd with
          | non => simp [toPD] at e1; subst e1; cases ru; exact PySem.P.repr_of_none ⟨.str _, H, I.tok _, ⟨_, rfl⟩, q⟩
          | bl b => simp [toPD] at e1; subst e1; cases ru; exact PySem.P.repr_of_bool ⟨.str _, H, I.tok _, ⟨_, rfl⟩, q⟩
          | int i => simp [toPD] at e1; subst e1; obtain ⟨t, rfl⟩ := ru; exact PySem.P.repr_of_int (by simpa [PyData.showable] using z1) ⟨.str _, H, I.tok _, ⟨_, rfl⟩, q⟩
          | str i => simp [toPD] at e1; subst e1; obtain ⟨t, rfl⟩ := ru; exact PySem.P.repr_of_str ⟨.str _, H, I.tok _, ⟨_, rfl⟩, q⟩ (by simpa [PyData.shown] using z4)
          | tup h1 h2 => exact key _ ru
          | fl h1 h2 => exact key _ ru
          | ref h1 => exact key _ ru
          | emp h1 => exact key _ ru
        · rw [if_neg hz] at p'; exact p'.elim
    exact gen p
end
end Z
namespace Z
open PySem PySem.Spec PyProof.Rows L2

/-! ## statements -/
def PQ (K : PySem.W.Frag) (W : WX) (H : Hp) (m : List Addr) (r : SRes) (D : Ends) : Prop := match r with
  | .nx E S => ∀ H' m' σ, Le K H m H' m' → RE K H' m' E σ → RS K H' m' S → D.nx σ H'
  | .brk E S => ∀ H' m' σ, Le K H m H' m' → RE K H' m' E σ → RS K H' m' S → D.bk σ H'
  | .cnt E S => ∀ H' m' σ, Le K H m H' m' → RE K H' m' E σ → RS K H' m' S → D.ct σ H'
  | .ret d S => ∀ H' m' v, Le K H m H' m' → RS K H' m' S → RV K H' m' d v → D.rt v H'
  | .exc c fs E S => ∀ H' m' σ cls dd, Le K H m H' m' → RE K H' m' E σ → RS K H' m' S → RX K H' m' c fs cls dd → W cls dd σ H'
  | .bad => False
theorem PQ.re {K W H m H1 m1} {r : SRes} {D : Ends} (l : Le K H m H1 m1) (h : PQ K W H m r D) : PQ K W H1 m1 r D := by
  cases r with
  | nx E S => exact fun H' m' σ l' => h H' m' σ (l.trans l')
  | brk E S => exact fun H' m' σ l' => h H' m' σ (l.trans l')
  | cnt E S => exact fun H' m' σ l' => h H' m' σ (l.trans l')
  | ret d S => exact fun H' m' v l' => h H' m' v (l.trans l')
  | exc c fs E S => exact fun H' m' σ cls dd l' => h H' m' σ cls dd (l.trans l')
  | bad => exact h
def tS (K : PySem.W.Frag) (W : WX) (f : FS) : TS := fun D σ H => ∃ m E S, RE K H m E σ ∧ RS K H m S ∧ PQ K W H m (f E S) D
def Res.s (r : Res) (E : Ev) (k : D → Sto → SRes) : SRes := match r with
  | .ok d S => k d S
  | .exc c fs S => .exc c fs E S
  | .bad => .bad
def ResB.s (r : ResB) (E : Ev) (k : Bool → Sto → SRes) : SRes := match r with
  | .ok d S => k d S
  | .exc c fs S => .exc c fs E S
  | .bad => .bad
def SRes.then (r : SRes) (k : FS) : SRes := match r with
  | .nx E S => k E S
  | r => r
@[simp] theorem Res.s_ok {d S E} {k : D → Sto → SRes} : (Res.ok d S).s E k = k d S := rfl
@[simp] theorem Res.s_exc {c fs S E} {k : D → Sto → SRes} : (Res.exc c fs S).s E k = .exc c fs E S := rfl
@[simp] theorem Res.s_bad {E} {k : D → Sto → SRes} : Res.bad.s E k = .bad := rfl
@[simp] theorem ResB.s_ok {d S E} {k : Bool → Sto → SRes} : (ResB.ok d S).s E k = k d S := rfl
@[simp] theorem ResB.s_exc {c fs S E} {k : Bool → Sto → SRes} : (ResB.exc c fs S).s E k = .exc c fs E S := rfl
@[simp] theorem ResB.s_bad {E} {k : Bool → Sto → SRes} : ResB.bad.s E k = .bad := rfl
@[simp] theorem SRes.then_nx {E S} {k : FS} : (SRes.nx E S).then k = k E S := rfl
@[simp] theorem SRes.then_ret {d S} {k : FS} : (SRes.ret d S).then k = .ret d S := rfl
@[simp] theorem SRes.then_brk {E S} {k : FS} : (SRes.brk E S).then k = .brk E S := rfl
@[simp] theorem SRes.then_cnt {E S} {k : FS} : (SRes.cnt E S).then k = .cnt E S := rfl
@[simp] theorem SRes.then_exc {c fs E S} {k : FS} : (SRes.exc c fs E S).then k = .exc c fs E S := rfl
@[simp] theorem SRes.then_bad {k : FS} : SRes.bad.then k = .bad := rfl

def sNil : FS := fun E S => .nx E S
def sSeq (f g : FS) : FS := fun E S => (f E S).then g
def sSet (i : Nat) (f : FE) : FS := fun E S => (f E S).s E fun d S1 => .nx (E.set i (some d)) S1
def sEx (f : FE) : FS := fun E S => (f E S).s E fun _ S1 => .nx E S1
def sRet (f : FE) : FS := fun E S => (f E S).s E fun d S1 => .ret d S1
def sRetN : FS := fun _ S => .ret .non S
def sIf (t : FB) (f g : FS) : FS := fun E S => (t E S).s E fun b S1 => if b then f E S1 else g E S1
/-- a tuple's items into slots: a tree of names -/
inductive Pat where
  | nm (i : Nat)
  | tp (ps : List Pat)
mutual
def Pat.put : Pat → D → Ev → Option Ev
  | .nm i, d, E => some (E.set i (some d))
  | .tp ps, .tup xs, E => if ps.length = xs.length then Pat.puts ps xs E else none
  | .tp _, _, _ => none
def Pat.puts : List Pat → List D → Ev → Option Ev
  | [], [], E => some E
  | p :: ps, d :: ds, E => (match Pat.put p d E with
    | some E1 => Pat.puts ps ds E1
    | none => none)
  | _, _, _ => none
end
mutual
def Pat.slots : Pat → List Nat
  | .nm i => [i]
  | .tp ps => Pat.slotsL ps
def Pat.slotsL : List Pat → List Nat
  | [] => []
  | p :: ps => Pat.slots p ++ Pat.slotsL ps
end
def sPut (p : Pat) (f : FE) : FS := fun E S => (f E S).s E fun d S1 => match p.put d E with
  | some E1 => .nx E1 S1
  | none => .bad
/-- xs[i] = e: e first -/
def sSub (f o i : FE) : FS := fun E S => (f E S).s E fun d S1 => (o E S1).s E fun x S2 => (i E S2).s E fun k S3 => match x, k with
  | .ref n, .int j => (match S3[n]? with
    | some (.lst xs) => (match ixN xs.length j with
      | some a => .nx E (S3.set n (.lst (xs.set a d)))
      | none => .bad)
    | _ => .bad)
  | _, _ => .bad
section
variable {X : Cx} {W : WX} {pos : Pos}
theorem s_nil : PSs X [] (tS X.K W sNil) := ⟨fun pins s σ H D I ⟨m, E, S, re, rs, p⟩ => pss_nil.run pins s σ H D I (p H m σ Le.refl re rs)⟩
theorem s_cons {st : Stmt} {rest : List Stmt} {f g : FS} (h1 : PS X st (tS X.K W f)) (h2 : PSs X rest (tS X.K W g)) : PSs X (st :: rest) (tS X.K W (sSeq f g)) := by
  refine ⟨fun pins s σ H D I ⟨m, E, S, re, rs, p⟩ => (pss_cons h1 h2).run pins s σ H D I ?_⟩
  refine ⟨m, E, S, re, rs, ?_⟩
  have p' : PQ X.K W H m ((f E S).then g) D := p
  cases e : f E S with
  | nx E1 S1 => rw [e] at p'; exact fun H1 m1 σ1 l re1 rs1 => ⟨m1, E1, S1, re1, rs1, PQ.re l p'⟩
  | brk E1 S1 => rw [e] at p'; exact p'
  | cnt E1 S1 => rw [e] at p'; exact p'
  | ret d S1 => rw [e] at p'; exact p'
  | exc c fs E1 S1 => rw [e] at p'; exact p'
  | bad => rw [e] at p'; exact p'
theorem s_one {st : Stmt} {f : FS} (h1 : PS X st (tS X.K W f)) : PSs X [st] (tS X.K W (sSeq f sNil)) := s_cons h1 s_nil
/-- an expression's value, then what hangs on it -/
theorem tE.stm {K : PySem.W.Frag} {W : WX} {σ : L2.St} {H : Hp} {f : FE} {k : Ev → D → Sto → SRes} {D : Ends} (h : tS K W (fun E S => (f E S).s E (k E)) D σ H) :
    tE K W f σ H fun v H1 => ∃ m E S d, RE K H1 m E σ ∧ RS K H1 m S ∧ RV K H1 m d v ∧ PQ K W H1 m (k E d S) D := by
  obtain ⟨m, E, S, re, rs, p⟩ := h
  refine ⟨m, E, S, re, rs, ?_⟩
  have p' : PQ K W H m ((f E S).s E (k E)) D := p
  cases e : f E S with
  | ok d S1 => rw [e] at p'; exact fun H1 m1 v l rs1 rv => ⟨m1, E, S1, d, re.up l, rs1, rv, PQ.re l p'⟩
  | exc c fs S1 => rw [e] at p'; exact fun H1 m1 cls dd l rs1 rx => p' H1 m1 σ cls dd l (re.up l) rs1 rx
  | bad => rw [e] at p'; exact p'
theorem tT.stm {K : PySem.W.Frag} {W : WX} {σ : L2.St} {H : Hp} {f : FB} {k : Ev → Bool → Sto → SRes} {D : Ends} (h : tS K W (fun E S => (f E S).s E (k E)) D σ H) :
    tT K W f σ H fun b H1 => ∃ m E S, RE K H1 m E σ ∧ RS K H1 m S ∧ PQ K W H1 m (k E b S) D := by
  obtain ⟨m, E, S, re, rs, p⟩ := h
  refine ⟨m, E, S, re, rs, ?_⟩
  have p' : PQ K W H m ((f E S).s E (k E)) D := p
  cases e : f E S with
  | ok d S1 => rw [e] at p'; exact fun H1 m1 l rs1 => ⟨m1, E, S1, re.up l, rs1, PQ.re l p'⟩
  | exc c fs S1 => rw [e] at p'; exact fun H1 m1 cls dd l rs1 rx => p' H1 m1 σ cls dd l (re.up l) rs1 rx
  | bad => rw [e] at p'; exact p'
theorem s_set {i : Nat} {x : Str} {e : Expr} {f : FE} {pos' : Pos} (hN : X.N.Nodup) (hi : X.N[i]? = some x) (hx : Loc X.env.scope x) (he : PE X e (tE X.K W f)) (hs : swapsWith e (some (.Name x pos')) pos.line X.env = pure false := by rfl)
    (hf : X.fn x = true ∨ X.env.scope.names.lookup x = some .local := by first | exact .inl rfl | exact .inr rfl) : PS X (.Assign [.Name x pos'] e pos) (tS X.K W (sSet i f)) := by
  refine ⟨fun pins s σ H D I h => (ps_set hN hi hx he hs hf).run pins s σ H D I ?_⟩
  exact (tE.stm (k := fun E d S1 => .nx (E.set i (some d)) S1) h).mono fun v H1 ⟨m, E, S, d, re, rs, rv, p⟩ => p H1 m _ Le.refl (re.set i rv) rs
theorem s_ex {e : Expr} {f : FE} (he : PE X e (tE X.K W f)) (hsw : swapsWith e none pos.line X.env = pure false := by rfl) : PS X (.Expr e pos) (tS X.K W (sEx f)) := by
  refine ⟨fun pins s σ H D I h => (ps_expr he hsw).run pins s σ H D I ?_⟩
  exact (tE.stm (k := fun E d S1 => .nx E S1) h).mono fun v H1 ⟨m, E, S, d, re, rs, rv, p⟩ => p H1 m _ Le.refl re rs
theorem s_ret {e : Expr} {f : FE} (he : PE X e (tE X.K W f)) : PS X (.Return (some e) pos) (tS X.K W (sRet f)) := by
  refine ⟨fun pins s σ H D I h => (ps_ret he).run pins s σ H D I ?_⟩
  exact (tE.stm (k := fun E d S1 => .ret d S1) h).mono fun v H1 ⟨m, E, S, d, re, rs, rv, p⟩ => p H1 m v Le.refl rs rv
theorem s_retN : PS X (.Return none pos) (tS X.K W sRetN) := ⟨fun pins s σ H D I ⟨m, E, S, re, rs, p⟩ => ps_retN.run pins s σ H D I (p H m _ Le.refl rs .non)⟩
theorem s_pass : PS X (.Pass pos) (tS X.K W sNil) := ⟨fun pins s σ H D I ⟨m, E, S, re, rs, p⟩ => ps_pass.run pins s σ H D I (p H m σ Le.refl re rs)⟩
def sBrk : FS := fun E S => .brk E S
def sCnt : FS := fun E S => .cnt E S
theorem s_brk : PS X (.Break pos) (tS X.K W sBrk) := ⟨fun pins s σ H D I ⟨m, E, S, re, rs, p⟩ => ps_break.run pins s σ H D I (p H m σ Le.refl re rs)⟩
theorem s_cnt : PS X (.Continue pos) (tS X.K W sCnt) := ⟨fun pins s σ H D I ⟨m, E, S, re, rs, p⟩ => ps_continue.run pins s σ H D I (p H m σ Le.refl re rs)⟩
theorem s_if {c : Expr} {a b : List Stmt} {t : FB} {f g : FS} (hc : PT X c (tT X.K W t)) (ha : PSs X a (tS X.K W f)) (hb : PSs X b (tS X.K W g)) : PS X (.If c a b pos) (tS X.K W (sIf t f g)) := by
  refine ⟨fun pins s σ H D I h => (ps_if hc ha hb).run pins s σ H D I ?_⟩
  refine (tT.stm (k := fun E b S1 => if b then f E S1 else g E S1) h).mono fun b H1 ⟨m, E, S, re, rs, p⟩ => ?_
  cases b with
  | true => exact iteT ⟨m, E, S, re, rs, p⟩
  | false => exact iteF ⟨m, E, S, re, rs, p⟩
theorem wipe_set_mem {σ : L2.St} {i : Nat} {o : Option V} : ∀ {vs : List Nat}, i ∈ vs → wipe (σ.set i o) vs = wipe σ vs
  | [], h => by cases h
  | v :: vs, h => by
    by_cases e : v = i
    · subst e
      show (wipe (σ.set v o) vs).set v none = (wipe σ vs).set v none
      have comm : ∀ (us : List Nat), (wipe (σ.set v o) us).set v none = (wipe σ us).set v none := by
        intro us
        induction us with
        | nil => show (σ.set v o).set v none = σ.set v none; rw [List.set_set]
        | cons u us ih =>
          show ((wipe (σ.set v o) us).set u none).set v none = ((wipe σ us).set u none).set v none
          by_cases e2 : u = v
          · subst e2; rw [List.set_set, List.set_set]; exact ih
          · rw [List.set_comm _ _ e2, List.set_comm _ _ e2, ih]
      exact comm vs
    · have h' : i ∈ vs := by
        rcases List.mem_cons.mp h with z | z
        · exact absurd z.symm e
        · exact z
      show (wipe (σ.set i o) vs).set v none = (wipe σ vs).set v none
      rw [wipe_set_mem h']
theorem wipe_twice (σ : L2.St) (vs : List Nat) : wipe (wipe σ vs) vs = wipe σ vs := by
  have gen : ∀ us : List Nat, (∀ u ∈ us, u ∈ vs) → wipe (wipe σ us) vs = wipe σ vs := by
    intro us
    induction us with
    | nil => intro _; rfl
    | cons u us ih =>
      intro h
      show wipe ((wipe σ us).set u none) vs = wipe σ vs
      rw [wipe_set_mem (h u List.mem_cons_self)]
      exact ih fun x hx => h x (List.mem_cons_of_mem _ hx)
  exact gen vs fun _ h => h
/-- a target's reading -/
def Fits (p : List Nat) (σ σ' : L2.St) : Prop := ∀ vs : List Nat, (∀ i ∈ p, i ∈ vs) → wipe σ' vs = wipe σ vs
def GP (K : PySem.W.Frag) (p : Pat) (g : TG) : Prop := ∀ (d : D) (v : V) (σ : L2.St) (H : Hp) (m : List Addr) (E E1 : Ev) (Q : L2.St → Hp → Prop), RV K H m d v → RE K H m E σ → p.put d E = some E1 → (∀ σ', RE K H m E1 σ' → Fits p.slots σ σ' → Q σ' H) → g v σ H Q
def GPs (K : PySem.W.Frag) (p : List Pat) (g : TGs) : Prop := ∀ (ds : List D) (vs : List V) (σ : L2.St) (H : Hp) (m : List Addr) (E E1 : Ev) (Q : L2.St → Hp → Prop), RVs K H m ds vs → RE K H m E σ → Pat.puts p ds E = some E1 → (∀ σ', RE K H m E1 σ' → Fits (Pat.slotsL p) σ σ' → Q σ' H) → g vs σ H Q
theorem gp_nm {K : PySem.W.Frag} (i : Nat) : GP K (.nm i) (gName i) := fun d v σ H m E E1 Q rv re h q => by
  simp only [Pat.put, Option.some.injEq] at h
  subst h
  exact q _ (re.set i rv) fun vs hv => wipe_set_mem (hv i (by simp [Pat.slots]))
theorem gps_nil {K : PySem.W.Frag} : GPs K [] gNil := fun ds vs σ H m E E1 Q rv re h q => by
  cases rv with
  | nil => simp only [Pat.puts, Option.some.injEq] at h; subst h; exact ⟨rfl, q _ re fun _ _ => rfl⟩
  | cons _ _ => simp [Pat.puts] at h
theorem gps_cons {K : PySem.W.Frag} {p : Pat} {ps : List Pat} {g : TG} {gs : TGs} (h1 : GP K p g) (h2 : GPs K ps gs) : GPs K (p :: ps) (gCons g gs) := fun ds vs σ H m E E1 Q rv re h q => by
  cases rv with
  | nil => simp [Pat.puts] at h
  | cons r t =>
    rename_i d v ds vs
    simp only [Pat.puts] at h
    cases e : p.put d E with
    | none => simp [e] at h
    | some E2 =>
      simp only [e] at h
      refine ⟨v, vs, rfl, h1 d v σ H m E E2 _ r re e fun σ' re' f1 => h2 ds vs σ' H m E2 E1 Q t re' h fun σ2 re2 f2 => q σ2 re2 fun us hu => ?_⟩
      simp only [Pat.slotsL, List.mem_append] at hu
      rw [f2 us (fun i hi => hu i (.inr hi)), f1 us (fun i hi => hu i (.inl hi))]
theorem gp_tp {K : PySem.W.Frag} {ps : List Pat} {gs : TGs} {n : Nat} (hn : ps.length = n) (h : GPs K ps gs) : GP K (.tp ps) (gTup K n gs) := fun d v σ H m E E1 Q rv re e q => by
  cases rv with
  | tup h1 h2 =>
    rename_i a xs vs
    simp only [Pat.put] at e
    by_cases hl : ps.length = xs.length
    · rw [if_pos hl] at e
      exact ⟨a, vs, rfl, h1, by rw [← h2.len, ← hl, hn], h xs vs σ H m E E1 Q h2 re e fun σ' re' f => q σ' re' (by simpa only [Pat.slots] using f)⟩
    · rw [if_neg hl] at e; cases e
  | _ => simp [Pat.put] at e
theorem s_put {tg e : Expr} {f : FE} {p : Pat} {g : TG} (he : PE X e (tE X.K W f)) (hg : PG X tg g) (hp : GP X.K p g) (hs : swapsWithSole [tg] e pos.line X.env = pure false := by rfl) (hw : swappedStores [tg] e X.env = pure none := by rfl)
    (h1 : (assignEach [tg] X.env).map (·.2) = [assign tg X.env] := by rfl) : PS X (.Assign [tg] e pos) (tS X.K W (sPut p f)) := by
  refine ⟨fun pins s σ H D I h => (ps_asg he hg hs hw h1).run pins s σ H D I ?_⟩
  refine (tE.stm (k := fun E d S1 => match p.put d E with | some E1 => .nx E1 S1 | none => .bad) h).mono fun v H1 ⟨m, E, S, d, re, rs, rv, q⟩ => ?_
  cases e : p.put d E with
  | none => simp only [e] at q; exact q.elim
  | some E1 =>
    simp only [e] at q
    exact hp d v σ H1 m E E1 _ rv re e fun σ' re' _ => q H1 m σ' Le.refl re' rs
theorem s_sub {o i e : Expr} {f fo fi : FE} {p2 : Pos} (he : PE X e (tE X.K W f)) (ho : PE X o (tE X.K W fo)) (hi : PE X i (tE X.K W fi)) (hg : PG X (.Subscript o i p2) (L2.gSub (tE X.K W fo) (tE X.K W fi) rSetL))
    (hs : swapsWithSole [.Subscript o i p2] e pos.line X.env = pure false := by rfl) (hw : swappedStores [.Subscript o i p2] e X.env = pure none := by rfl)
    (h1 : (assignEach [.Subscript o i p2] X.env).map (·.2) = [assign (.Subscript o i p2) X.env] := by rfl) : PS X (.Assign [.Subscript o i p2] e pos) (tS X.K W (sSub f fo fi)) := by
  refine ⟨fun pins s σ H D I h => (ps_asg he hg hs hw h1).run pins s σ H D I ?_⟩
  refine (tE.stm (k := fun E d S1 => (fo E S1).s E fun x S2 => (fi E S2).s E fun k S3 => match x, k with
    | .ref n, .int j => (match S3[n]? with
      | some (.lst xs) => (match ixN xs.length j with
        | some a => .nx E (S3.set n (.lst (xs.set a d)))
        | none => .bad)
      | _ => .bad)
    | _, _ => .bad) h).mono fun v H1 ⟨m, E, S, d, re, rs, rv, p⟩ => ?_
  show tE X.K W fo σ H1 _
  refine ⟨m, E, S, re, rs, ?_⟩
  cases e1 : fo E S with
  | exc c fs S1 => rw [e1] at p; exact fun H2 m2 cls dd l rs1 rx => p H2 m2 σ cls dd l (re.up l) rs1 rx
  | bad => rw [e1] at p; exact p
  | ok x S1 =>
    rw [e1] at p
    intro H2 m2 vx l2 rs2 rx
    show tE X.K W fi σ H2 _
    refine ⟨m2, E, S1, re.up l2, rs2, ?_⟩
    have p2 := PQ.re l2 p
    simp only [Res.s_ok] at p2
    cases e2 : fi E S1 with
    | exc c fs S2 => rw [e2] at p2; exact fun H2 m2 cls dd l rs1 rx => p2 H2 m2 σ cls dd l ((re.up l2).up l) rs1 rx
    | bad => rw [e2] at p2; exact p2
    | ok k S2 =>
      rw [e2] at p2
      intro H3 m3 vk l3 rs3 rk
      have p3 := PQ.re l3 p2
      simp only [Res.s_ok] at p3
      have rx3 := rx.up l3
      cases rx3 with
      | ref h1 =>
        rename_i n a
        cases rk with
        | int j =>
          cases e3 : S2[n]? with
          | none => simp [e3] at p3; exact p3.elim
          | some c =>
            cases c with
            | lst xs =>
              simp only [e3] at p3
              cases e4 : ixN xs.length j with
              | none => simp only [e4] at p3; exact p3.elim
              | some b =>
                simp only [e4] at p3
                obtain ⟨a', vs, q1, q2, q3, q4⟩ := rs3.list e3 (.ref h1)
                cases q1
                refine ⟨_, vs, j, b, rfl, rfl, q3, by rw [← q4.len]; exact e4, ?_⟩
                have rv3 : RV X.K H3 m3 d v := (rv.up l2).up l3
                obtain ⟨l4, r4⟩ := rs3.write e3 h1 q3 (RVs.set rv3 b q4)
                exact p3 _ m3 σ l4 (((re.up l2).up l3).up l4) r4
            | _ => simp [e3] at p3; exact p3.elim
        | _ => exact p3.elim
      | _ => cases rk <;> exact p3.elim
end

/-! ## defs -/
structure FnG (P : Program) (w : World) (K : PySem.W.Frag) (mg : Str → Option Value) (base : Heap) (k : Nat) (f : Addr) (fd : FuncData) (ps : List Str) (sp : Sp) : Prop where
  len : ∀ vs H Q E, sp vs H Q E → vs.length = ps.length
  run : ∀ (A : Around) (outer : List Env) (s : Shared) (H : Hp) (args : Args) (us : List Value) (vs : List V) (Q : VK) (E : XK), A.guards = some [] → Room k A → Env0 P w K mg base A outer s H →
    BindsTo s fd args (ps.zip us) → Vals vs us → sp vs H Q E → codeAny (model P w) A (.call (.ref f) args) (CR (L2.CX P w) outer P w H s Q E) s
theorem FnG.mono {P w K mg base j k f fd ps sp} (F : FnG P w K mg base j f fd ps sp) (h : j ≤ k) : FnG P w K mg base k f fd ps sp :=
  ⟨F.len, fun A outer s H args us vs Q E hg hr => F.run A outer s H args us vs Q E hg (hr.mono h)⟩
theorem FnG.imp {P w K mg base k f fd ps sp sp'} (F : FnG P w K mg base k f fd ps sp) (h : ∀ vs H Q E, sp' vs H Q E → sp vs H Q E) : FnG P w K mg base k f fd ps sp' :=
  ⟨fun vs H Q E q => F.len vs H Q E (h _ _ _ _ q), fun A outer s H args us vs Q E hg hr he hb hv hs => F.run A outer s H args us vs Q E hg hr he hb hv (h _ _ _ _ hs)⟩
/-- a def's promise by its function -/
def spF (K : PySem.W.Frag) (n : Nat) (F : List D → Sto → Res) : Sp := fun vs H Q E => ∃ m S ds, ds.length = n ∧ RS K H m S ∧ RVs K H m ds vs ∧ PV K (fun c d _ H' => E c d H') H m [] (F ds S) Q
/-- what a body does, from the arguments -/
def runS (L : Nat) (b : FS) (ds : List D) (S : Sto) : Res := match b (ds.map some ++ List.replicate (L - ds.length) none) S with
  | .nx _ S1 => .ok .non S1
  | .ret d S1 => .ok d S1
  | .exc c fs _ S1 => .exc c fs S1
  | _ => .bad
theorem start_rel {K : PySem.W.Frag} {H : Hp} {m : List Addr} {N : List Str} {ds : List D} {vs : List V} (h : RVs K H m ds vs) : RE K H m (ds.map some ++ List.replicate (N.length - ds.length) none) (L2.start N vs) := by
  unfold L2.start
  rw [← h.len]
  refine ⟨by simp [h.len], fun i d e => ?_⟩
  by_cases hi : i < ds.length
  · rw [List.getElem?_append_left (by simpa using hi)] at e
    have hd : ds[i]? = some d := by
      rw [List.getElem?_map] at e
      cases q : ds[i]? with
      | none => rw [q] at e; cases e
      | some d' => rw [q] at e; cases e; rfl
    obtain ⟨v, h1, h2⟩ := h.at hd
    refine ⟨v, ?_, h2⟩
    rw [List.getElem?_append_left (by simpa [← h.len] using hi), List.getElem?_map, h1]
    rfl
  · rw [List.getElem?_append_right (by simpa using hi), List.getElem?_replicate] at e
    split at e <;> cases e
theorem fn_ok {P : Program} {w : World} {K : PySem.W.Frag} {mg : Str → Option Value} {base : Heap} {x qual : Str} {params : Arguments} {body : List Stmt} {scope : Scope} {dvs : List V} {kws : List (Str × V)} {f : Addr} {fd : FuncData} {N ps : List Str} {k : Nat} {b : FS}
    (F : FunD K x qual params body scope dvs kws f fd) (Sc : FnScope N ps scope)
    (hb : ∀ (cdv : Value) (A : Around) (outer : List Env) (s : Shared) (H : Hp) (E : XK), A.guards = some [] → Room k (A.deeper (envOfC qual scope s.heap.objs.size f cdv)) →
      PSs (cxOf (L2.CX P w) P w K mg base N qual scope f cdv A outer s H E) body (tS K (fun c d _ H' => E c d H') b)) :
    FnG P w K mg base (k + 1) f fd ps (spF K ps.length (runS N.length b)) := by
  obtain ⟨oc, od, dV, kV, doc, pm, an, cdv, ct, osl, rfl, lk, hcd, _, _⟩ := F.ex
  have len : ∀ vs H Q E, spF K ps.length (runS N.length b) vs H Q E → vs.length = ps.length := fun vs H Q E ⟨m, S, ds, h1, _, h2, _⟩ => by rw [← h2.len, h1]
  refine ⟨len, fun A outer s H args us vs Q E hg hr e0 hbd r hsp => ?_⟩
  have cont : ∀ (H' : Hp) (vs' : List V) (Q' : VK) (E' : XK), spF K ps.length (runS N.length b) vs' H' Q' E' → tS K (fun c d _ H'' => E' c d H'') b { nx := fun _ H'' => Q' .non H'', rt := Q' } (L2.start N vs') H' := by
    intro H' vs' Q' E' ⟨m, S, ds, h1, h2, h3, h4⟩
    refine ⟨m, _, S, start_rel h3, h2, ?_⟩
    unfold runS at h4
    cases e : b (ds.map some ++ List.replicate (N.length - ds.length) none) S with
    | nx E1 S1 => rw [e] at h4; exact fun H1 m1 σ l _ rs1 => h4 H1 m1 _ l rs1 .non
    | ret d S1 => rw [e] at h4; exact fun H1 m1 v l rs1 rv => h4 H1 m1 v l rs1 rv
    | exc c fs E1 S1 => rw [e] at h4; exact fun H1 m1 σ cls dd l _ rs1 rx => h4 H1 m1 cls dd l rs1 rx
    | brk E1 S1 => rw [e] at h4; exact h4.elim
    | cnt E1 S1 => rw [e] at h4; exact h4.elim
    | bad => rw [e] at h4; exact h4.elim
  have hl := len _ _ _ _ hsp
  have KX : K.In s.heap := e0.mod.kin.keeps fun b o e => (e0.bs b o e).1
  have hkind : ∀ y ∈ ps.zip us, scope.names.lookup y.1 = some .local ∨ (scope.names.lookup y.1 = some .cell ∧ ((cellsFrom (s.heap.objs.size + 1) scope.names []).lookup y.1).isSome = true) := by
    intro y hy
    rcases Sc.par y.1 (List.of_mem_zip (a := y.1) (b := y.2) hy).1 with q | q
    · exact .inl q
    · exact .inr ⟨q, PySem.W.cellsFrom_some _ _ _ (.inl q)⟩
  refine codeAny_call_function hr.depth (KX _ _ lk) rfl Sc.co Sc.gen rfl (PySem.W.codeRec_of KX hcd) (hbd _ _ _ _ ?_)
  refine wpAny_newFunctionEnv_cells Sc.kind hkind fun env he s1 ic => ?_
  subst he
  refine ⟨(e0.mod.nolimit.keeps fun b o e => (e0.bs b o e).1).keeps ic.toInCall.keep, codeAny_func ?_⟩
  have I : Inv (cxOf (L2.CX P w) P w K mg base N qual scope f cdv A outer s H E) [] (L2.start N vs) H s1 := inv_start Sc hr.hd e0 hl r ic
  refine wpAny_mono ((hb cdv A outer s H E hg (hr.deeper _)).run [] s1 (L2.start N vs) H _ I (cont H vs Q E hsp)) (fun fl s' hs => ?_) fun e s' hs => hs
  cases fl with
  | ret u =>
    obtain ⟨v, σ', H', J, rv, q⟩ := hs
    exact ⟨v, H', J.os, J.bare, J.base, J.hok, rv, q⟩
  | next =>
    obtain ⟨σ', H', J, q⟩ := hs
    exact ⟨.non, H', J.os, J.bare, J.base, J.hok, rfl, q⟩
  | brk =>
    obtain ⟨σ', H', J, q⟩ := hs
    exact (show False from q).elim
  | cont =>
    obtain ⟨σ', H', J, q⟩ := hs
    exact (show False from q).elim
end Z
namespace Z
open PySem PySem.Spec PyProof.Rows L2

/-! ## calls of the text's own defs -/
def pick {α : Type} (idx : List Nat) (l : List α) : List α := idx.filterMap fun i => l[i]?
/-- how n values written by place, and those by the names ks, come to the parameters: idx, over them and the defaults -/
structure Bd (K : PySem.W.Frag) (fd : FuncData) (ps : List Str) (n : Nat) (ks : List Str) (idx : List Nat) (dfl : List D) : Prop where
  to : ∃ (dvs : List V) (du : List Value), (∀ H m, RVs K H m dfl dvs) ∧ Vals dvs du ∧ ∀ (s : Shared) (us : List Value), K.In s.heap → us.length = n + ks.length →
    BindsTo s fd ⟨us.take n, ks.zip (us.drop n)⟩ (ps.zip (pick idx (us ++ du)))
theorem Vals.pick {vs : List V} {us : List Value} (h : Vals vs us) : ∀ idx : List Nat, Vals (Z.pick idx vs) (Z.pick idx us)
  | [] => .nil
  | i :: r => by
    show Vals (List.filterMap (fun i => vs[i]?) (i :: r)) (List.filterMap (fun i => us[i]?) (i :: r))
    cases e : vs[i]? with
    | none =>
      rw [List.filterMap_cons, List.filterMap_cons, e, h.none_of e]
      exact Vals.pick h r
    | some v =>
      obtain ⟨u, hu, rv⟩ := h.get e
      rw [List.filterMap_cons, List.filterMap_cons, e, hu]
      exact .cons rv (Vals.pick h r)
theorem RVs.pick {K H m} {ds : List D} {vs : List V} (h : RVs K H m ds vs) : ∀ idx : List Nat, RVs K H m (Z.pick idx ds) (Z.pick idx vs)
  | [] => .nil
  | i :: r => by
    show RVs K H m (List.filterMap (fun i => ds[i]?) (i :: r)) (List.filterMap (fun i => vs[i]?) (i :: r))
    cases e : ds[i]? with
    | none =>
      have e2 : vs[i]? = none := by
        rw [List.getElem?_eq_none_iff] at e ⊢
        rw [← h.len]; exact e
      rw [List.filterMap_cons, List.filterMap_cons, e, e2]
      exact RVs.pick h r
    | some d =>
      obtain ⟨v, hv, rv⟩ := h.at e
      rw [List.filterMap_cons, List.filterMap_cons, e, hv]
      exact .cons rv (RVs.pick h r)
/-- the callee's function behind the binding -/
def vFn (n : Nat) (idx : List Nat) (dfl : List D) (Fn : List D → Sto → Res) (ds : List D) (S : Sto) : Res := if ds.length = n then Fn (pick idx (ds ++ dfl)) S else .bad
def lApp (l r : FL) : FL := fun E S => (l E S).bindL fun xs S1 => (r E S1).bindL fun ys S2 => .ok (xs ++ ys) S2
section
variable {X : Cx} {W : WX} {pos p : Pos} {x : Str} {f : Addr} {fd : FuncData} {ps ks : List Str} {n lv : Nat} {idx : List Nat} {dfl : List D} {Fn : List D → Sto → Res} {np : Nat}
theorem run_call {pins : List (Addr × Obj)} {s : Shared} {σ : L2.St} {H : Hp} {m : List Addr} {S : Sto} {ds : List D} {vs : List V} {us : List Value} {Q : VK} (F : FnG X.prog X.w X.K X.mg X.base lv f fd ps (spF X.K np Fn)) (hr : Room lv X.A) (hgd : X.A.guards = some [])
    (tk : Takes X W) (B : Bd X.K fd ps n ks idx dfl) (I : Inv X pins σ H s) (rs : RS X.K H m S) (rv : RVs X.K H m ds vs) (r : Vals vs us) (hn : us.length = n + ks.length)
    (hl : (pick idx (ds ++ dfl)).length = np) (q : PV X.K W H m σ (Fn (pick idx (ds ++ dfl)) S) Q) : wpAny (model X.prog X.w) X.A (call (.ref f) (us.take n) (ks.zip (us.drop n))) (EP X pins σ Q) X.xe s := by
  obtain ⟨dvs, du, h1, h2, h3⟩ := B.to
  have hsp : spF X.K np Fn (pick idx (vs ++ dvs)) H Q (fun c d H' => W c d σ H') := by
    refine ⟨m, S, _, hl, rs, (rv.app (h1 H m)).pick idx, ?_⟩
    cases e : Fn (pick idx (ds ++ dfl)) S with
    | ok d S1 => rw [e] at q; exact q
    | exc c fs S1 => rw [e] at q; exact q
    | bad => rw [e] at q; exact q
  refine wpAny_call (codeAny_mono (F.run X.A X.stack s H _ (pick idx (us ++ du)) (pick idx (vs ++ dvs)) Q (fun c d H' => W c d σ H') hgd hr I.env0 (h3 s us I.kIn hn) (Vals.pick (r.append h2) idx) hsp) fun r' s' hq => ?_)
  cases r' with
  | error e => exact tk e s' (XE.of_call I (fun _ _ _ z => z) hq)
  | ok fl =>
    cases fl with
    | ret u => exact I.after hq
    | next => exact (show False from hq).elim
    | brk => exact (show False from hq).elim
    | cont => exact (show False from hq).elim
theorem e_call {e : Expr} {es : List Expr} {l : FL} (F : FnG X.prog X.w X.K X.mg X.base lv f fd ps (spF X.K np Fn)) (hr : Room lv X.A) (hgd : X.A.guards = some []) (tk : Takes X W) (hg : Gl X x) (hm : X.mg x = some (.ref f)) (hk : PySem.W.keepIn X.K (.ref f) = true)
    (B : Bd X.K fd ps n [] idx dfl) (hl : ∀ ds : List D, ds.length = n → (pick idx (ds ++ dfl)).length = np) (ha : PA X (e :: es) (tL X.K W l)) (hdb : (x == ("__debug__" : Str)) = false := by decide)
    (he : starEach (e :: es) X.env = (false, eval e X.env) :: starEach es X.env := by rfl)
    (hpl : (backTo pos (starEach es X.env)).any (·.1) = false := by rfl) : PE X (.Call (.Name x p) (e :: es) [] pos) (tE X.K W (vCall (vFn n idx dfl Fn) l)) := by
  refine ⟨fun pins s σ H Q I h => ?_⟩
  refine wpAny_Call_Name_kw (ld_glob I hg hm ?_ hdb)
  refine PySem.W.callWith_K (h₀ := X.base) I.ok.mod.kin hk (thn (ha.run pos pins s σ H _ I (tL.then (k := fun _ => vFn n idx dfl Fn) h)) fun us s1 ⟨vs, H1, I1, r, m, E, S, ds, re, rs, rv, q⟩ => ⟨I1.kIn, ?_⟩) he hpl
  unfold vFn at q
  by_cases hn : ds.length = n
  · rw [if_pos hn] at q
    have hu : us.length = n + ([] : List Str).length := by rw [← r.length, ← rv.len, hn]; rfl
    have := run_call F hr hgd tk B I1 rs rv r hu (hl ds hn) q
    rw [List.take_of_length_le (by have z : ([] : List Str).length = 0 := rfl; omega)] at this
    exact this
  · rw [if_neg hn] at q; exact q.elim
theorem e_call0 (F : FnG X.prog X.w X.K X.mg X.base lv f fd ps (spF X.K np Fn)) (hr : Room lv X.A) (hgd : X.A.guards = some []) (tk : Takes X W) (hg : Gl X x) (hm : X.mg x = some (.ref f)) (hk : PySem.W.keepIn X.K (.ref f) = true)
    (B : Bd X.K fd ps 0 [] idx dfl) (hl : ∀ ds : List D, ds.length = 0 → (pick idx (ds ++ dfl)).length = np) (hdb : (x == ("__debug__" : Str)) = false := by decide) : PE X (.Call (.Name x p) [] [] pos) (tE X.K W (vCall (vFn 0 idx dfl Fn) lNil)) := by
  refine ⟨fun pins s σ H Q I ⟨m, E, S, re, rs, q⟩ => ?_⟩
  refine wpAny_Call_Name_kw (ld_glob I hg hm ?_ hdb)
  refine PySem.W.callWith_K0 I.kIn hk ?_
  exact run_call (us := []) (ds := []) F hr hgd tk B I rs .nil .nil rfl (hl [] rfl) q
theorem lapp {K : PySem.W.Frag} {σ : L2.St} {H : Hp} {l r : FL} {k : List D → Sto → Res} {Q : VK} (h : tE K W (vCall k (lApp l r)) σ H Q) :
    tL K W l σ H fun vs H1 => tL K W r σ H1 fun us H2 => ∃ m S ds es, RS K H2 m S ∧ RVs K H2 m ds vs ∧ RVs K H2 m es us ∧ PV K W H2 m σ (k (ds ++ es) S) Q := by
  obtain ⟨m, E, S, re, rs, p⟩ := h
  refine ⟨m, E, S, re, rs, ?_⟩
  have p' : PV K W H m σ (((l E S).bindL fun xs S1 => (r E S1).bindL fun ys S2 => .ok (xs ++ ys) S2).bind k) Q := p
  cases e : l E S with
  | ok ds S1 =>
    rw [e] at p'
    intro H1 m1 vs l1 rs1 rv
    refine ⟨m1, E, S1, re.up l1, rs1, ?_⟩
    simp only [ResL.bindL_ok] at p'
    have p2 := PV.re l1 p'
    cases e2 : r E S1 with
    | ok es S2 =>
      rw [e2] at p2
      exact fun H2 m2 us l2 rs2 ru => ⟨m2, S2, ds, es, rs2, rv.up l2, ru, PV.re l2 p2⟩
    | exc c fs S2 => rw [e2] at p2; exact p2
    | bad => rw [e2] at p2; exact p2
  | exc c fs S1 => rw [e] at p'; exact p'
  | bad => rw [e] at p'; exact p'
/-- f(e, .., k = v, ..) -/
theorem e_callK {e : Expr} {es : List Expr} {kws : List Keyword} {l r : FL} (F : FnG X.prog X.w X.K X.mg X.base lv f fd ps (spF X.K np Fn)) (hr : Room lv X.A) (hgd : X.A.guards = some []) (tk : Takes X W) (hg : Gl X x) (hm : X.mg x = some (.ref f)) (hk : PySem.W.keepIn X.K (.ref f) = true)
    (B : Bd X.K fd ps n ks idx dfl) (hl : ∀ ds : List D, ds.length = n + ks.length → (pick idx (ds ++ dfl)).length = np) (hne : (e :: es).length = n) (ha : PA X (e :: es) (tL X.K W l)) (hkw : PK X kws (tL X.K W r)) (hlen : ∀ E S vs S1, l E S = .ok vs S1 → vs.length = n)
    (hall : (backToKw pos (keywordEach kws X.env)).all (·.1.isSome) = true := by rfl) (hks : (backToKw pos (keywordEach kws X.env)).filterMap (·.1) = ks := by rfl)
    (hdb : (x == ("__debug__" : Str)) = false := by decide) (he : starEach (e :: es) X.env = (false, eval e X.env) :: starEach es X.env := by rfl)
    (hpl : ((backTo pos (starEach (e :: es) X.env)).any (·.1) || (backToKw pos (keywordEach kws X.env)).any (·.1.isNone)) = false := by rfl) :
    PE X (.Call (.Name x p) (e :: es) kws pos) (tE X.K W (vCall (vFn (n + ks.length) idx dfl Fn) (lApp l r))) := by
  refine ⟨fun pins s σ H Q I h => ?_⟩
  refine wpAny_Call_Name_kw (ld_glob I hg hm ?_ hdb)
  have h2 := lapp h
  obtain ⟨m0, E0, S0, re0, rs0, p0⟩ := h2
  have h3 : tL X.K W l σ H fun vs H1 => vs.length = n ∧ tL X.K W r σ H1 fun us H2 => ∃ m S ds es, RS X.K H2 m S ∧ RVs X.K H2 m ds vs ∧ RVs X.K H2 m es us ∧ PV X.K W H2 m σ (vFn (n + ks.length) idx dfl Fn (ds ++ es) S) Q := by
    refine ⟨m0, E0, S0, re0, rs0, ?_⟩
    cases e : l E0 S0 with
    | ok ds S1 => rw [e] at p0; exact fun H1 m1 vs l1 rs1 rv => ⟨by rw [← rv.len]; exact hlen _ _ _ _ e, p0 H1 m1 vs l1 rs1 rv⟩
    | exc c fs S1 => rw [e] at p0; exact p0
    | bad => rw [e] at p0; exact p0
  refine PySem.W.callWith_KW (h₀ := X.base) I.ok.mod.kin hk hall (thn (ha.run pos pins s σ H _ I h3) fun us s1 ⟨vs, H1, I1, r1, hvn, q⟩ => ?_) hpl he
  refine thn (hkw.run pos pins s1 σ H1 _ I1 q) fun ws s2 ⟨zs, H2, I2, r2, m, S, ds, es', rs, rv, rz, q2⟩ => ⟨I2.kIn, ?_⟩
  rw [hks]
  unfold vFn at q2
  by_cases hn : (ds ++ es').length = n + ks.length
  · rw [if_pos hn] at q2
    have hun : us.length = n := by rw [← r1.length, hvn]
    have hu : (us ++ ws).length = n + ks.length := by rw [List.length_append, ← r1.length, ← r2.length, ← rv.len, ← rz.len, ← List.length_append, hn]
    have := run_call F hr hgd tk B I2 rs (rv.app rz) (r1.append r2) hu (hl _ hn) q2
    rw [List.take_append_of_le_length (by omega), List.take_of_length_le (by omega), List.drop_append_of_le_length (by omega), List.drop_of_length_le (by omega)] at this
    exact this
  · rw [if_neg hn] at q2; exact q2.elim
/-- f(k = v, ..) -/
theorem e_callK0 {kws : List Keyword} {r : FL} (F : FnG X.prog X.w X.K X.mg X.base lv f fd ps (spF X.K np Fn)) (hr : Room lv X.A) (hgd : X.A.guards = some []) (tk : Takes X W) (hg : Gl X x) (hm : X.mg x = some (.ref f)) (hk : PySem.W.keepIn X.K (.ref f) = true)
    (B : Bd X.K fd ps 0 ks idx dfl) (hl : ∀ ds : List D, ds.length = ks.length → (pick idx (ds ++ dfl)).length = np) (hkw : PK X kws (tL X.K W r))
    (hall : (backToKw pos (keywordEach kws X.env)).all (·.1.isSome) = true := by rfl) (hks : (backToKw pos (keywordEach kws X.env)).filterMap (·.1) = ks := by rfl)
    (hdb : (x == ("__debug__" : Str)) = false := by decide)
    (hpl : ((backTo pos (starEach [] X.env)).any (·.1) || (backToKw pos (keywordEach kws X.env)).any (·.1.isNone)) = false := by rfl) :
    PE X (.Call (.Name x p) [] kws pos) (tE X.K W (vCall (vFn ks.length idx dfl Fn) r)) := by
  refine ⟨fun pins s σ H Q I h => ?_⟩
  refine wpAny_Call_Name_kw (ld_glob I hg hm ?_ hdb)
  refine PySem.W.callWith_KW0 (h₀ := X.base) I.ok.mod.kin hk hall ?_ hpl
  refine thn (hkw.run pos pins s σ H _ I (tL.then (k := fun _ => vFn ks.length idx dfl Fn) h)) fun ws s2 ⟨zs, H2, I2, r2, m, E, S, ds, re, rs, rv, q2⟩ => ⟨I2.kIn, ?_⟩
  rw [hks]
  unfold vFn at q2
  by_cases hn : ds.length = ks.length
  · rw [if_pos hn] at q2
    have hu : ws.length = 0 + ks.length := by rw [← r2.length, ← rv.len, hn]; omega
    exact run_call F hr hgd tk B I2 rs rv r2 hu (hl _ hn) q2
  · rw [if_neg hn] at q2; exact q2.elim
end

/-! ## what is walked -/
inductive ResI where
  | ok (ds : List D) (src : Option Nat) (S : Sto)
  | exc (c : Str) (fs : List (Str × D)) (S : Sto)
  | bad
abbrev FI := Ev → Sto → ResI
/-- the list that is walked stands as it was -/
def srcOk (src : Option Nat) (ds : List D) (S : Sto) : Prop := match src with
  | none => True
  | some n => S[n]? = some (.lst ds)
/-- turn by turn the items of ds -/
def WK (K : PySem.W.Frag) (H₀ : Hp) (m₀ : List Addr) (J : It) (ds : List D) (src : Option Nat) : Prop := ∀ (H : Hp) (m : List Addr) (S : Sto), Le K H₀ m₀ H m → RS K H m S → srcOk src ds S →
  (∀ i, i < ds.length → J.go i H) ∧ J.stop ds.length H ∧ ∀ i x H', i < ds.length → J.yld i H x H' → ∃ m' d, Le K H m H' m' ∧ RS K H' m' S ∧ ds[i]? = some d ∧ RV K H' m' d x
def tI (K : PySem.W.Frag) (W : WX) (f : FI) : TI := fun σ H R => ∃ m E S, RE K H m E σ ∧ RS K H m S ∧ match f E S with
  | .ok ds src S1 => ∀ H' m' J, Le K H m H' m' → RS K H' m' S1 → srcOk src ds S1 → WK K H' m' J ds src → R J H'
  | .exc c fs S1 => ∀ H' m' cls dd, Le K H m H' m' → RS K H' m' S1 → RX K H' m' c fs cls dd → W cls dd σ H'
  | .bad => False
def Res.bindI (r : Res) (k : D → Sto → ResI) : ResI := match r with
  | .ok d S => k d S
  | .exc c fs S => .exc c fs S
  | .bad => .bad
@[simp] theorem Res.bindI_ok {d S} {k : D → Sto → ResI} : (Res.ok d S).bindI k = k d S := rfl
@[simp] theorem Res.bindI_exc {c fs S} {k : D → Sto → ResI} : (Res.exc c fs S).bindI k = .exc c fs S := rfl
@[simp] theorem Res.bindI_bad {k : D → Sto → ResI} : Res.bad.bindI k = .bad := rfl
def itSeq (d : D) (S : Sto) : ResI := match d with
  | .tup xs => .ok xs none S
  | .fl xs => .ok xs none S
  | .ref n => (match S[n]? with
    | some (.lst xs) => .ok xs (some n) S
    | _ => .bad)
  | _ => .bad
def iSeq (f : FE) : FI := fun E S => (f E S).bindI itSeq
def rngD (lo : Int) (n : Nat) : List D := (List.range n).map fun (i : Nat) => D.int (lo + (i : Int))
def itR1 (d : D) (S : Sto) : ResI := match d with
  | .int j => if -(2 ^ 62) ≤ j ∧ j < 2 ^ 62 then .ok (rngD 0 j.toNat) none S else .bad
  | _ => .bad
def iRng (f : FE) : FI := fun E S => (f E S).bindI itR1
section
variable {K : PySem.W.Frag} {H : Hp} {m : List Addr}
theorem wk_list {a : Addr} {ds : List D} {n : Nat} (ha : m[n]? = some a) : WK K H m (Itl K a) ds (some n) := by
  intro H1 m1 S l rs hs
  obtain ⟨a', vs, e1, h1, h2, h3⟩ := rs.list hs (.ref (l.m _ _ ha))
  cases e1
  refine ⟨fun i hi => ?_, ⟨vs, SqL.of h2, by rw [h3.len]; exact Nat.le_refl _⟩, fun i x H' hi y => ?_⟩
  · obtain ⟨v, hv, _⟩ := h3.at (List.getElem?_eq_getElem hi)
    exact ⟨vs, v, SqL.of h2, hv⟩
  · obtain ⟨rfl, y⟩ := y
    obtain ⟨d, e, rv⟩ := h3.at' (y vs (SqL.of h2))
    exact ⟨m1, d, Le.refl, rs, e, rv⟩
theorem wk_fl {a : Addr} {ds : List D} {vs : List V} (ha : SqF K H a vs) (r : RVs K H m ds vs) : WK K H m (Itl K a) ds none := by
  intro H1 m1 S l rs hs
  have h2 := (l.f _ _ ha).sq
  have h3 := r.up l
  refine ⟨fun i hi => ?_, ⟨vs, h2, by rw [h3.len]; exact Nat.le_refl _⟩, fun i x H' hi y => ?_⟩
  · obtain ⟨v, hv, _⟩ := h3.at (List.getElem?_eq_getElem hi)
    exact ⟨vs, v, h2, hv⟩
  · obtain ⟨rfl, y⟩ := y
    obtain ⟨d, e, rv⟩ := h3.at' (y vs h2)
    exact ⟨m1, d, Le.refl, rs, e, rv⟩
theorem wk_tup {a : Addr} {ds : List D} {vs : List V} (ha : SqT K H a vs) (r : RVs K H m ds vs) : WK K H m (Itt K a) ds none := by
  intro H1 m1 S l rs hs
  have h2 := l.t _ _ ha
  have h3 := r.up l
  refine ⟨fun i hi => ?_, ⟨vs, h2, by rw [h3.len]; exact Nat.le_refl _⟩, fun i x H' hi y => ?_⟩
  · obtain ⟨v, hv, _⟩ := h3.at (List.getElem?_eq_getElem hi)
    exact ⟨vs, v, h2, hv⟩
  · obtain ⟨rfl, y⟩ := y
    obtain ⟨d, e, rv⟩ := h3.at' (y vs h2)
    exact ⟨m1, d, Le.refl, rs, e, rv⟩
theorem wk_rng {lo : Int} {n : Nat} : WK K H m (Itr lo n) (rngD lo n) none := by
  intro H1 m1 S l rs hs
  have hl : (rngD lo n).length = n := by simp [rngD]
  refine ⟨fun i hi => by rw [hl] at hi; exact hi, by rw [hl]; exact Nat.le_refl _, fun i x H' hi y => ?_⟩
  obtain ⟨rfl, rfl⟩ := y
  rw [hl] at hi
  exact ⟨m1, .int (lo + i), Le.refl, rs, by simp [rngD, hi], .int _⟩
end
section
variable {X : Cx} {W : WX} {tg : Expr}
theorem i_seq {l : Expr} {f : FE} (he : PE X l (tE X.K W f)) : PI X tg l (tI X.K W (iSeq f)) := by
  refine ⟨fun pins s σ H R I h => ?_⟩
  have h' : tE X.K W f σ H fun v H1 => ∃ m S d, RS X.K H1 m S ∧ RV X.K H1 m d v ∧ match itSeq d S with
      | .ok ds src S1 => ∀ H' m' J, Le X.K H1 m H' m' → RS X.K H' m' S1 → srcOk src ds S1 → WK X.K H' m' J ds src → R J H'
      | .exc c fs S1 => ∀ H' m' cls dd, Le X.K H1 m H' m' → RS X.K H' m' S1 → RX X.K H' m' c fs cls dd → W cls dd σ H'
      | .bad => False := by
    obtain ⟨m, E, S, re, rs, p⟩ := h
    refine ⟨m, E, S, re, rs, ?_⟩
    unfold iSeq at p
    cases e : f E S with
    | ok d S1 =>
      rw [e] at p
      simp only [Res.bindI_ok] at p
      intro H1 m1 v l1 rs1 rv
      refine ⟨m1, S1, d, rs1, rv, ?_⟩
      cases e2 : itSeq d S1 with
      | ok ds src S2 => rw [e2] at p; exact fun H' m' J l' => p H' m' J (l1.trans l')
      | exc c fs S2 => rw [e2] at p; exact fun H' m' cls dd l' => p H' m' cls dd (l1.trans l')
      | bad => rw [e2] at p; exact p
    | exc c fs S1 => rw [e] at p; exact p
    | bad => rw [e] at p; exact p
  refine thn (he.run pins s σ H _ I h') fun v s1 ⟨x, H1, I1, r1, m, S, d, rs, rd, q⟩ => ?_
  have newIt : FpOk X pins H1 s1.heap.objs.size := I1.fpOk (Nat.le_refl _) (I1.hok.fresh (Nat.le_refl _))
  have fps : ∀ b ∈ [s1.heap.objs.size], FpOk X pins H1 b := fun b hb => by
    have e : b = s1.heap.objs.size := by simpa using hb
    subst e
    exact newIt
  cases rd with
  | tup h1 h2 =>
    rename_i a xs vs
    cases r1
    obtain ⟨its, rv, p, hz⟩ := I1.tuple h1
    refine wpAny_pyIter_tuple (show s1.heap.IsTuple a its.toArray from p) ?_
    exact ⟨_, _, _, _, H1, rfl, I1.kept (t' := s1.toks) fun b o e => Heap.get?_push_of_some _ e, turn_tuple a _, ⟨_, Heap.get?_push_size _ rfl, rfl, rfl⟩, fps, q H1 m _ Le.refl rs True.intro (wk_tup h1 h2)⟩
  | fl h1 h2 =>
    rename_i a xs vs
    cases r1
    obtain ⟨its, rv, p, hz⟩ := I1.list h1.sq
    refine wpAny_pyIter_list p.isList ?_
    exact ⟨_, _, _, _, H1, rfl, I1.kept (t' := s1.toks) fun b o e => Heap.get?_push_of_some _ e, turn_list a _, ⟨_, Heap.get?_push_size _ rfl, rfl, rfl⟩, fps, q H1 m _ Le.refl rs True.intro (wk_fl h1 h2)⟩
  | ref h1 =>
    rename_i n a
    simp only [itSeq] at q
    cases e : S[n]? with
    | none => simp only [e] at q
    | some c =>
      cases c with
      | lst xs =>
        simp only [e] at q
        obtain ⟨a', vs, e1, q2, q3, q4⟩ := rs.list e (.ref h1)
        cases e1
        cases r1
        obtain ⟨its, rv, p, hz⟩ := I1.list (SqL.of q3)
        refine wpAny_pyIter_list p.isList ?_
        exact ⟨_, _, _, _, H1, rfl, I1.kept (t' := s1.toks) fun b o e => Heap.get?_push_of_some _ e, turn_list _ _, ⟨_, Heap.get?_push_size _ rfl, rfl, rfl⟩, fps, q H1 m _ Le.refl rs e (wk_list h1)⟩
      | _ => simp only [e] at q
  | _ => exact (show False from q).elim
theorem i_rng {a : Expr} {f : FE} {p pos : Pos} (hg : Gl X "range") (hm : X.mg "range" = none) (he : PE X a (tE X.K W f)) (hs : starEach [a] X.env = [(false, eval a X.env)] := by rfl) : PI X tg (.Call (.Name "range" p) [a] [] pos) (tI X.K W (iRng f)) := by
  refine ⟨fun pins s σ H R I h => (pi_range1 hg hm (pa_cons he pa_nil (by rw [hs]; rfl)) hs).run pins s σ H R I ?_⟩
  obtain ⟨m, E, S, re, rs, p⟩ := h
  show tE X.K W f σ H _
  refine ⟨m, E, S, re, rs, ?_⟩
  unfold iRng at p
  cases e : f E S with
  | ok d S1 =>
    rw [e] at p
    simp only [Res.bindI_ok] at p
    intro H1 m1 v l1 rs1 rv
    cases rv with
    | int j =>
      have p' : match (if -(2 ^ 62) ≤ j ∧ j < 2 ^ 62 then ResI.ok (rngD 0 j.toNat) none S1 else ResI.bad) with
        | .ok ds src S1 => ∀ H' m' J, Le X.K H m H' m' → RS X.K H' m' S1 → srcOk src ds S1 → WK X.K H' m' J ds src → R J H'
        | .exc c fs S1 => ∀ H' m' cls dd, Le X.K H m H' m' → RS X.K H' m' S1 → RX X.K H' m' c fs cls dd → W cls dd σ H'
        | .bad => False := p
      by_cases hz : -(2 ^ 62) ≤ j ∧ j < 2 ^ 62
      · rw [if_pos hz] at p'
        exact ⟨j, rfl, hz.1, hz.2, p' H1 m1 _ l1 rs1 True.intro wk_rng⟩
      · rw [if_neg hz] at p'; exact p'.elim
    | _ => exact (show False from p).elim
  | exc c fs S1 => rw [e] at p; exact p
  | bad => rw [e] at p; exact p
end
end Z
namespace Z
open PySem PySem.Spec PyProof.Rows L2

/-! ## for -/
def srcB (src : Option Nat) (ds : List D) (S : Sto) (k : SRes) : SRes := match src with
  | none => k
  | some n => (match S[n]? with
    | some (.lst xs) => if xs.length = ds.length then k else .bad
    | _ => .bad)
/-- the list at src is ds: asked only where a list is walked (by a proof, not by a computation) -/
noncomputable def srcIf {α : Type} (src : Option Nat) (ds : List D) (S : Sto) (k bad : α) : α := open Classical in if srcOk src ds S then k else bad
theorem srcIf_ok {α : Type} {src : Option Nat} {ds : List D} {S : Sto} {k bad : α} (h : srcOk src ds S) : srcIf src ds S k bad = k := by
  unfold srcIf
  rw [if_pos h]
@[simp] theorem srcIf_none {α : Type} {ds : List D} {S : Sto} {k bad : α} : srcIf none ds S k bad = k := srcIf_ok True.intro
theorem srcIf_some {α : Type} {n : Nat} {ds : List D} {S : Sto} {k bad : α} (h : S[n]? = some (.lst ds)) : srcIf (some n) ds S k bad = k := srcIf_ok h
noncomputable def forS (p : Pat) (b : FS) (src : Option Nat) (all : List D) : List D → FS
  | [], E, S => srcIf src all S (.nx E S) .bad
  | d :: r, E, S => srcIf src all S (match p.put d E with
    | none => .bad
    | some E1 => (match b E1 S with
      | .nx E2 S2 => forS p b src all r E2 S2
      | .cnt E2 S2 => forS p b src all r E2 S2
      | .brk E2 S2 => .nx E2 S2
      | x => x)) .bad
noncomputable def sFor (it : FI) (p : Pat) (b : FS) : FS := fun E S => match it E S with
  | .ok ds src S1 => forS p b src ds ds E S1
  | .exc c fs S1 => .exc c fs E S1
  | .bad => .bad
section
variable {X : Cx} {W : WX} {pos : Pos}
theorem srcIf_split {α : Type} {src : Option Nat} {ds : List D} {S : Sto} {k bad : α} {P : α → Prop} (h : P (srcIf src ds S k bad)) (hb : ¬ P bad) : srcOk src ds S ∧ P k := by
  unfold srcIf at h
  by_cases e : srcOk src ds S
  · rw [if_pos e] at h; exact ⟨e, h⟩
  · rw [if_neg e] at h; exact absurd h hb
theorem s_for {tg iter : Expr} {body : List Stmt} {it : FI} {p : Pat} {g : TG} {b : FS} (hp : PassesOwn (model X.prog X.w) X.A X.env X.xe) (hc : X.calm = true) (hi : PI X tg iter (tI X.K W it)) (hg : PG X tg g) (hgp : GP X.K p g) (hb : PSs X body (tS X.K W b))
    (hs : ∀ x, foldedSetIterable iter X.env x = pure x := by intro _; rfl) : PS X (.For tg iter body [] pos) (tS X.K W (sFor it p b)) := by
  refine ⟨fun pins s σ H D I h => (ps_for hp hc hi hg hb hs).run pins s σ H D I ?_⟩
  obtain ⟨m, E, S, re, rs, q⟩ := h
  refine ⟨m, E, S, re, rs, ?_⟩
  unfold sFor at q
  cases e : it E S with
  | exc c fs S1 => rw [e] at q; exact fun H1 m1 cls dd l rs1 rx => q H1 m1 σ cls dd l (re.up l) rs1 rx
  | bad => rw [e] at q; exact q
  | ok ds src S1 =>
    rw [e] at q
    intro H1 m1 J l1 rs1 so wk
    have q1 := PQ.re l1 q
    dsimp only at q1
    -- what holds ahead of turn i
    refine ⟨fun i mm σ' H' => mm = ds.length - i ∧ i ≤ ds.length ∧ ∃ m' E' S', Le X.K H1 m1 H' m' ∧ RE X.K H' m' E' σ' ∧ RS X.K H' m' S' ∧ PQ X.K W H' m' (forS p b src ds (ds.drop i) E' S') D, ⟨_, rfl, Nat.zero_le _, m1, E, S1, Le.refl, re.up l1, rs1, by simpa using q1⟩, ?_⟩
    rintro i mm σ' H' ⟨rfl, hi, m', E', S', l', re', rs', q'⟩
    by_cases hlt : i < ds.length
    · rw [List.drop_eq_getElem_cons hlt] at q'
      unfold forS at q'
      obtain ⟨so', q''⟩ := srcIf_split (P := fun r => PQ X.K W H' m' r D) q' (fun z => z)
      obtain ⟨w1, w2, w3⟩ := wk H' m' S' l' rs' so'
      refine .inr ⟨w1 i hlt, fun σ'' H'' => ∃ m'' E'' S'', Le X.K H1 m1 H'' m'' ∧ RE X.K H'' m'' E'' σ'' ∧ RS X.K H'' m'' S'' ∧ PQ X.K W H'' m'' (forS p b src ds (ds.drop (i + 1)) E'' S'') D,
        fun σ'' H'' ⟨m'', E'', S'', a1, a2, a3, a4⟩ => ⟨ds.length - (i + 1), by omega, rfl, hlt, m'', E'', S'', a1, a2, a3, a4⟩, fun x H2 y => ?_⟩
      obtain ⟨m2, d, l2, rs2, ed, rd⟩ := w3 i x H2 hlt y
      have ed2 : ds[i] = d := by
        rw [List.getElem?_eq_getElem hlt] at ed
        exact Option.some.inj ed
      rw [ed2] at q''
      cases ep : p.put d E' with
      | none => simp only [ep] at q''; exact q''.elim
      | some E2 =>
        simp only [ep] at q''
        refine hgp d x σ' H2 m2 E' E2 _ rd (re'.up l2) ep fun σ2 re2 _ => ?_
        refine ⟨m2, E2, S', re2, rs2, ?_⟩
        have q3 := PQ.re l2 q''
        cases eb : b E2 S' with
        | nx E3 S3 => rw [eb] at q3; exact fun H3 m3 σ3 l3 re3 rs3 => ⟨m3, E3, S3, (l'.trans l2).trans l3, re3, rs3, PQ.re l3 q3⟩
        | cnt E3 S3 => rw [eb] at q3; exact fun H3 m3 σ3 l3 re3 rs3 => ⟨m3, E3, S3, (l'.trans l2).trans l3, re3, rs3, PQ.re l3 q3⟩
        | brk E3 S3 => rw [eb] at q3; exact q3
        | ret d3 S3 => rw [eb] at q3; exact q3
        | exc c fs E3 S3 => rw [eb] at q3; exact q3
        | bad => rw [eb] at q3; exact q3
    · have e : i = ds.length := by omega
      subst e
      rw [List.drop_length] at q'
      unfold forS at q'
      obtain ⟨so', q''⟩ := srcIf_split (P := fun r => PQ X.K W H' m' r D) q' (fun z => z)
      obtain ⟨w1, w2, w3⟩ := wk H' m' S' l' rs' so'
      exact .inl ⟨w2, q'' H' m' σ' Le.refl re' rs'⟩

/-! ## while: with a number of turns that is not reached -/
def whileS (t : FB) (b : FS) : Nat → FS
  | 0, _, _ => .bad
  | n + 1, E, S => (t E S).s E fun c S1 => if c then (match b E S1 with
    | .nx E2 S2 => whileS t b n E2 S2
    | .cnt E2 S2 => whileS t b n E2 S2
    | .brk E2 S2 => .nx E2 S2
    | x => x) else .nx E S1
/-- it comes to an end: the number of turns is some one -/
noncomputable def sWhile (t : FB) (b : FS) : FS := fun E S => open Classical in if h : ∃ n, whileS t b n E S ≠ .bad then whileS t b h.choose E S else .bad
theorem whileS_more {t : FB} {b : FS} : ∀ (n k : Nat) (E : Ev) (S : Sto), whileS t b n E S ≠ .bad → whileS t b (n + k) E S = whileS t b n E S
  | 0, _, _, _, h => absurd rfl h
  | n + 1, k, E, S, h => by
    rw [Nat.add_right_comm]
    unfold whileS at h ⊢
    cases e : t E S with
    | exc c fs S1 => rfl
    | bad => rfl
    | ok c S1 =>
      simp only [e, ResB.s_ok] at h ⊢
      cases c with
      | false => rfl
      | true =>
        simp only [if_true] at h ⊢
        cases eb : b E S1 with
        | nx E2 S2 => simp only [eb] at h ⊢; exact whileS_more n k E2 S2 h
        | cnt E2 S2 => simp only [eb] at h ⊢; exact whileS_more n k E2 S2 h
        | _ => simp only [eb]
theorem sWhile_eq {t : FB} {b : FS} {n : Nat} {E : Ev} {S : Sto} (h : whileS t b n E S ≠ .bad) : sWhile t b E S = whileS t b n E S := by
  unfold sWhile
  have ex : ∃ n, whileS t b n E S ≠ .bad := ⟨n, h⟩
  rw [dif_pos ex]
  have h2 := ex.choose_spec
  rcases Nat.le_total ex.choose n with z | z
  · obtain ⟨k, e⟩ := Nat.le.dest z
    rw [← whileS_more _ k E S h2, e]
  · obtain ⟨k, e⟩ := Nat.le.dest z
    have := whileS_more n k E S h
    rw [e] at this
    exact this
theorem s_while {c : Expr} {body : List Stmt} {t : FB} {b : FS} (hp : PassesOwn (model X.prog X.w) X.A X.env X.xe) (hc : PT X c (tT X.K W t)) (hb : PSs X body (tS X.K W b)) : PS X (.While c body [] pos) (tS X.K W (sWhile t b)) := by
  refine ⟨fun pins s σ H D I h => (ps_while hp hc hb).run pins s σ H D I ?_⟩
  obtain ⟨m, E, S, re, rs, q⟩ := h
  unfold sWhile at q
  by_cases ex : ∃ n, whileS t b n E S ≠ .bad
  · rw [dif_pos ex] at q
    refine ⟨fun mm σ' H' => ∃ m' E' S', RE X.K H' m' E' σ' ∧ RS X.K H' m' S' ∧ PQ X.K W H' m' (whileS t b mm E' S') D, ⟨_, m, E, S, re, rs, q⟩, ?_⟩
    rintro mm σ' H' ⟨m', E', S', re', rs', q'⟩
    cases mm with
    | zero => exact q'.elim
    | succ n =>
      unfold whileS at q'
      refine (tT.stm (k := fun E c S1 => if c then (match b E S1 with
        | .nx E2 S2 => whileS t b n E2 S2
        | .cnt E2 S2 => whileS t b n E2 S2
        | .brk E2 S2 => .nx E2 S2
        | x => x) else .nx E S1) ⟨m', E', S', re', rs', q'⟩).mono fun cb H2 ⟨m2, E2, S2, re2, rs2, q2⟩ => ?_
      cases cb with
      | false => exact iteF (q2 H2 m2 σ' Le.refl re2 rs2)
      | true =>
        refine iteT ⟨fun σ3 H3 => ∃ m3 E3 S3, RE X.K H3 m3 E3 σ3 ∧ RS X.K H3 m3 S3 ∧ PQ X.K W H3 m3 (whileS t b n E3 S3) D, fun σ3 H3 z => ⟨n, Nat.lt_succ_self n, z⟩, ?_⟩
        refine ⟨m2, E2, S2, re2, rs2, ?_⟩
        simp only [if_true] at q2
        cases eb : b E2 S2 with
        | nx E3 S3 => rw [eb] at q2; exact fun H3 m3 σ3 l3 re3 rs3 => ⟨m3, E3, S3, re3, rs3, PQ.re l3 q2⟩
        | cnt E3 S3 => rw [eb] at q2; exact fun H3 m3 σ3 l3 re3 rs3 => ⟨m3, E3, S3, re3, rs3, PQ.re l3 q2⟩
        | brk E3 S3 => rw [eb] at q2; exact q2
        | ret d3 S3 => rw [eb] at q2; exact q2
        | exc c fs E3 S3 => rw [eb] at q2; exact q2
        | bad => rw [eb] at q2; exact q2
  · rw [dif_neg ex] at q; exact q.elim
end

/-! ## list comprehensions of one clause -/
def wipeE (E : Ev) : List Nat → Ev
  | [] => E
  | v :: vs => (wipeE E vs).set v none
theorem RE.wipe {K H m E σ} (h : RE K H m E σ) : ∀ vs : List Nat, RE K H m (wipeE E vs) (L2.wipe σ vs)
  | [] => h
  | v :: vs => (RE.wipe h vs).unset v
def bTrue : FB := fun _ S => .ok true S
/-- the items' turns: the new list is cell n -/
noncomputable def lcS (p : Pat) (t : FB) (e : FE) (src : Option Nat) (all : List D) (n : Nat) (E0 : Ev) : List D → Sto → Res
  | [], S => srcIf src all S (.ok (.ref n) S) .bad
  | d :: r, S => srcIf src all S (match p.put d E0 with
    | none => .bad
    | some E1 => (match t E1 S with
      | .ok true S2 => (match e E1 S2 with
        | .ok y S3 => (match S3[n]? with
          | some (.lst acc) => if acc.length < 100000 then lcS p t e src all n E0 r (S3.set n (.lst (acc ++ [y]))) else .bad
          | _ => .bad)
        | _ => .bad)
      | .ok false S2 => lcS p t e src all n E0 r S2
      | _ => .bad)) .bad
noncomputable def vLc (it : FI) (p : Pat) (own : List Nat) (t : FB) (e : FE) : FE := fun E S => match it E S with
  | .ok ds src S1 => lcS p t e src ds S1.length (wipeE E own) ds (S1 ++ [.lst []])
  | .exc c fs S1 => .exc c fs S1
  | .bad => .bad
abbrev wNo : WX := fun _ _ _ _ => False
section
variable {X : Cx} {W : WX} {pos : Pos}
theorem ts_nil : PTs X [] (fun _ H Q => Q true H) := pts_nil
/-- no test, or one -/
def TsOk (X : Cx) (ifs : List Expr) (t : FB) (tt : TT) : Prop := PTs X ifs tt ∧ ∀ σ H Q, tT X.K wNo t σ H Q → tt σ H Q
theorem srcOk_push {src : Option Nat} {ds : List D} {S : Sto} {c : Cell} (h : srcOk src ds S) : srcOk src ds (S ++ [c]) := by
  cases src with
  | none => trivial
  | some n =>
    have h' : S[n]? = some (.lst ds) := h
    show (S ++ [c])[n]? = some (.lst ds)
    rw [List.getElem?_append_left (List.getElem?_eq_some_iff.mp h').1]
    exact h'
theorem e_lc {elt tg iter : Expr} {ifs : List Expr} {scope : Scope} {own : List (Str × Nat)} {it : FI} {p : Pat} {g : TG} {t : FB} {tt : TT} {e : FE} (hc : X.calm = true) (hN : X.N.Nodup) (hi : PI X tg iter (tI X.K W it)) (ok : BlkOk X.N X.env.scope scope own)
    (hg : ∀ (s : Shared) (H : Hp) (C : Addr) (cl : List (Str × Addr)) (fp : List Addr), PG (X.blk s H scope (compEnvC scope cl C X.env) fp) tg g) (hgp : GP X.K p g) (hown : ∀ i ∈ p.slots, i ∈ own.map (·.2))
    (ht : ∀ (s : Shared) (H : Hp) (C : Addr) (cl : List (Str × Addr)) (fp : List Addr), PTs (X.blk s H scope (compEnvC scope cl C X.env) fp) ifs tt) (htt : ∀ σ H Q, tT X.K wNo t σ H Q → tt σ H Q)
    (he : ∀ (s : Shared) (H : Hp) (C : Addr) (cl : List (Str × Addr)) (fp : List Addr), PE (X.blk s H scope (compEnvC scope cl C X.env) fp) elt (tE X.K wNo e)) (hs : ∀ x, foldedSetIterable iter X.env x = pure x := by intro _; rfl) :
    PE X (.ListComp elt [⟨tg, iter, ifs, 0⟩] scope pos) (tE X.K W (vLc it p (own.map (·.2)) t e)) := by
  refine ⟨fun pins s σ H Q I h => (pe_lc hc hN hi ok hg ht he hs).run pins s σ H Q I ?_⟩
  exact lc_read h hgp hown htt
where
  lc_read {K : PySem.W.Frag} {W : WX} {it : FI} {p : Pat} {g : TG} {t : FB} {tt : TT} {e : FE} {own : List Nat} {σ : L2.St} {H : Hp} {Q : VK} (h : tE K W (vLc it p own t e) σ H Q) (hgp : GP K p g) (hown : ∀ i ∈ p.slots, i ∈ own)
      (htt : ∀ σ H Q, tT K wNo t σ H Q → tt σ H Q) : tLc (tI K W it) g tt (tE K wNo e) own σ H Q := by
    obtain ⟨m, E, S, re, rs, q⟩ := h
    refine ⟨m, E, S, re, rs, ?_⟩
    unfold vLc at q
    cases ei : it E S with
    | exc c fs S1 => rw [ei] at q; exact q
    | bad => rw [ei] at q; exact q
    | ok ds src S1 =>
      rw [ei] at q
      intro H1 m1 J l1 rs1 so wk D0 hD0
      have q1 := PV.re l1 q
      dsimp only at q1
      obtain ⟨l2, rs2⟩ := rs1.alloc (ds := []) (vs := []) hD0 .nil
      have q2 := PV.re l2 q1
      have hn : (m1 ++ [D0])[S1.length]? = some D0 := by rw [← rs1.len]; simp
      refine ⟨fun i mm H' => mm = ds.length - i ∧ i ≤ ds.length ∧ ∃ m' S', Le K H1 m1 H' m' ∧ m'[S1.length]? = some D0 ∧ RE K H' m' E σ ∧ RS K H' m' S' ∧ PV K W H' m' σ (lcS p t e src ds S1.length (wipeE E own) (ds.drop i) S') Q,
        ⟨_, rfl, Nat.zero_le _, _, _, l2, hn, (re.up l1).up l2, rs2, by simpa using q2⟩, ?_⟩
      rintro i mm H' ⟨rfl, hi, m', S', l', hn', re', rs', q'⟩
      by_cases hlt : i < ds.length
      · rw [List.drop_eq_getElem_cons hlt] at q'
        unfold lcS at q'
        obtain ⟨so', q''⟩ := srcIf_split (P := fun r => PV K W H' m' σ r Q) q' (fun z => z)
        obtain ⟨w1, w2, w3⟩ := wk H' m' S' l' rs' so'
        refine .inr ⟨w1 i hlt, fun H'' => ∃ m'' S'', Le K H1 m1 H'' m'' ∧ m''[S1.length]? = some D0 ∧ RE K H'' m'' E σ ∧ RS K H'' m'' S'' ∧ PV K W H'' m'' σ (lcS p t e src ds S1.length (wipeE E own) (ds.drop (i + 1)) S'') Q,
          fun H'' ⟨m'', S'', a1, a2, a3, a4, a5⟩ => ⟨ds.length - (i + 1), by omega, rfl, hlt, m'', S'', a1, a2, a3, a4, a5⟩, fun x H2 y => ?_⟩
        obtain ⟨m2, d, l2, rs2, ed, rd⟩ := w3 i x H2 hlt y
        have ed2 : ds[i] = d := by
          rw [List.getElem?_eq_getElem hlt] at ed
          exact Option.some.inj ed
        rw [ed2] at q''
        cases ep : p.put d (wipeE E own) with
        | none => simp only [ep] at q''; exact q''.elim
        | some E2 =>
          simp only [ep] at q''
          refine hgp d x _ H2 m2 _ E2 _ rd (RE.wipe (re'.up l2) own) ep fun σ2 re2 fits => ⟨?_, ?_⟩
          · rw [fits own hown, wipe_twice]
          · have q3 := PV.re l2 q''
            refine htt σ2 H2 _ ⟨m2, E2, S', re2, rs2, ?_⟩
            cases et : t E2 S' with
            | exc c fs S3 => rw [et] at q3; exact q3.elim
            | bad => rw [et] at q3; exact q3.elim
            | ok bt S3 =>
              rw [et] at q3
              intro H3 m3 l3 rs3
              have q4 := PV.re l3 q3
              cases bt with
              | false => exact iteF ⟨m3, S3, (l'.trans l2).trans l3, l3.m _ _ (l2.m _ _ hn'), (re'.up l2).up l3, rs3, q4⟩
              | true =>
                refine iteT ⟨m3, E2, S3, re2.up l3, rs3, ?_⟩
                dsimp only at q4
                cases ee : e E2 S3 with
                | exc c fs S4 => simp only [ee] at q4; exact q4.elim
                | bad => simp only [ee] at q4; exact q4.elim
                | ok y S4 =>
                  simp only [ee] at q4
                  intro H4 m4 vy l4 rs4 ry
                  have hn4 : m4[S1.length]? = some D0 := l4.m _ _ (l3.m _ _ (l2.m _ _ hn'))
                  cases ec : S4[S1.length]? with
                  | none => simp only [ec] at q4; exact q4.elim
                  | some c =>
                    cases c with
                    | lst acc =>
                      simp only [ec] at q4
                      by_cases hz : acc.length < 100000
                      · rw [if_pos hz] at q4
                        obtain ⟨a', vs, e1, h1, h2, h3⟩ := rs4.list ec (.ref hn4)
                        cases e1
                        obtain ⟨l5, rs5⟩ := rs4.write ec hn4 h2 (h3.app (.cons ry .nil))
                        refine ⟨vs, h2, by rw [← h3.len]; exact Nat.lt_trans hz (by decide), ?_⟩
                        have l6 := ((l'.trans l2).trans l3).trans (l4.trans l5)
                        exact ⟨m4, _, l6, hn4, (((re'.up l2).up l3).up l4).up l5, rs5, PV.re (l4.trans l5) q4⟩
                      · rw [if_neg hz] at q4; exact q4.elim
                    | _ => simp only [ec] at q4; exact q4.elim
      · have e0 : i = ds.length := by omega
        subst e0
        rw [List.drop_length] at q'
        unfold lcS at q'
        obtain ⟨so', q''⟩ := srcIf_split (P := fun r => PV K W H' m' σ r Q) q' (fun z => z)
        obtain ⟨w1, w2, w3⟩ := wk H' m' S' l' rs' so'
        exact .inl ⟨w2, q'' H' m' _ Le.refl rs' (.ref hn')⟩
end
end Z
namespace Z
open PySem PySem.Spec PyProof.Rows L2

/-! ## classes -/
inductive CK where
  | ty (n : String)
  | own (c : Str)
  deriving DecidableEq
def ckV (K : PySem.W.Frag) : CK → Value
  | .ty n => .type n
  | .own c => .ref (He.ga K c)
/-- told answers of isinstance beyond the language's own classes -/
abbrev Tab := List ((CK × CK) × Bool)
def isOf (tab : Tab) (t c : CK) : Option Bool := match t, c with
  | .ty a, .ty b => kitB a b
  | _, _ => tab.lookup (t, c)
def isAny (tab : Tab) (t : CK) : List CK → Option Bool
  | [] => some false
  | c :: r => match isOf tab t c with
    | some true => some true
    | some false => isAny tab t r
    | none => none
/-- checked of the written part -/
def tabB (K : PySem.W.Frag) (tab : Tab) : Bool := tab.all fun p => decide (PySem.W.kitOne K (ckV K p.1.1) (ckV K p.1.2) = some p.2)
theorem tab_mem {k : CK × CK} {b : Bool} : ∀ {tab : Tab}, tab.lookup k = some b → (k, b) ∈ tab
  | [], h => by cases h
  | (k', b') :: r, h => by
    rw [List.lookup_cons] at h
    by_cases e : k == k'
    · simp only [e] at h
      cases h
      have e' : k = k' := by simpa using e
      rw [e']
      exact List.mem_cons_self
    · simp only [e] at h
      exact List.mem_cons_of_mem _ (tab_mem h)
theorem isOf_ok {K : PySem.W.Frag} {tab : Tab} (h : tabB K tab = true) {t c : CK} {b : Bool} (e : isOf tab t c = some b) : PySem.W.kitOne K (ckV K t) (ckV K c) = some b := by
  have key : tab.lookup (t, c) = some b → PySem.W.kitOne K (ckV K t) (ckV K c) = some b := by
    intro e
    unfold tabB at h
    rw [List.all_eq_true] at h
    have hm := tab_mem e
    exact of_decide_eq_true (h _ hm)
  cases t with
  | ty a =>
    cases c with
    | ty b' => exact kit_ty e
    | own _ => exact key e
  | own _ => exact key e
theorem isAny_ok {K : PySem.W.Frag} {tab : Tab} (h : tabB K tab = true) {t : CK} : ∀ {cs : List CK} {b : Bool}, isAny tab t cs = some b → PySem.W.kitAny K (ckV K t) (cs.map (ckV K)) = some b
  | [], b, e => by simp [isAny] at e; subst e; rfl
  | c :: r, b, e => by
    unfold isAny at e
    cases q : isOf tab t c with
    | none => simp [q] at e
    | some b0 =>
      have h1 := isOf_ok h q
      cases b0 with
      | true => simp [q] at e; subst e; exact kitAny_cons h1 (fun z => by cases z) (fun _ => rfl)
      | false => simp only [q] at e; exact kitAny_cons h1 (fun _ => isAny_ok h e) (fun z => by cases z)
/-- what is asked of an exception class of the text -/
def excB (K : PySem.W.Frag) (c : Str) : Bool :=
  (PySem.W.clsIn K (He.ga K c)).isSome && decide (PySem.W.findIn K (.ref (He.ga K c)) "__getattribute__" = some (some (.builtin "BaseException.__getattribute__"))) &&
  decide (PySem.W.findIn K (.ref (He.ga K c)) "__getattr__" = some none) && decide (PySem.W.subIn K (.ref (He.ga K c)) (.type "BaseException") = some true) &&
  decide (PySem.W.findIn K (.ref (He.ga K c)) "__class__" = some (some (.builtin "object.__class__"))) && decide (PySem.W.mroIn K (He.ga K c) (.type "object") = some true) && PySem.W.hasDictIn K (He.ga K c) &&
  decide (PySem.W.typeIn K (.ref (He.ga K c)) = some (.type "type")) && PySem.W.keepIn K (.ref (He.ga K c))
/-- .. of the language's own descriptor -/
def dscB (K : PySem.W.Frag) : Bool := decide (PySem.W.specialIn K (.builtin "object.__class__") "__get__" = some (some (.builtin "getset_descriptor.__get__"))) && decide (PySem.W.takesIn K (.builtin "object.__class__") = some true)
structure ExcF (K : PySem.W.Frag) (c : Str) : Prop where
  cls : (PySem.W.clsIn K (He.ga K c)).isSome = true
  ga : PySem.W.findIn K (.ref (He.ga K c)) "__getattribute__" = some (some (.builtin "BaseException.__getattribute__"))
  gg : PySem.W.findIn K (.ref (He.ga K c)) "__getattr__" = some none
  sub : PySem.W.subIn K (.ref (He.ga K c)) (.type "BaseException") = some true
  cl : PySem.W.findIn K (.ref (He.ga K c)) "__class__" = some (some (.builtin "object.__class__"))
  mro : PySem.W.mroIn K (He.ga K c) (.type "object") = some true
  hd : PySem.W.hasDictIn K (He.ga K c) = true
  ty : PySem.W.typeIn K (.ref (He.ga K c)) = some (.type "type")
  kp : PySem.W.keepIn K (.ref (He.ga K c)) = true
theorem excB_ok {K : PySem.W.Frag} {c : Str} (h : excB K c = true) : ExcF K c := by
  unfold excB at h
  simp only [Bool.and_eq_true, decide_eq_true_eq] at h
  obtain ⟨⟨⟨⟨⟨⟨⟨⟨h1, h2⟩, h3⟩, h4⟩, h5⟩, h6⟩, h7⟩, h8⟩, h9⟩ := h
  exact ⟨h1, h2, h3, h4, h5, h6, h7, h8, h9⟩
/-- a value's class -/
def tyC (d : D) (S : Sto) : Option CK := match d with
  | .non => some (.ty "NoneType")
  | .bl _ => some (.ty "bool")
  | .int _ => some (.ty "int")
  | .str _ => some (.ty "str")
  | .tup _ => some (.ty "tuple")
  | .fl _ => some (.ty "list")
  | .emp => some (.ty "dict")
  | .ref n => (match S[n]? with
    | some (.lst _) => some (.ty "list")
    | some (.exc c _) => some (.own c)
    | _ => none)
def gIsi (tab : Tab) (cs : List CK) (d : D) (S : Sto) : Res := match tyC d S with
  | some t => (match isAny tab t cs with
    | some b => .ok (.bl b) S
    | none => .bad)
  | none => .bad
/-- the classes whose values may be asked -/
structure ClsOk (K : PySem.W.Frag) (tab : Tab) : Prop where
  tb : tabB K tab = true
  ds : dscB K = true
  ex : ∀ c k b, tab.lookup (.own c, k) = some b → ExcF K c
section
variable {X : Cx} {W : WX} {pos p : Pos}
theorem exc_inst {pins : List (Addr × Obj)} {σ : L2.St} {H : Hp} {s : Shared} {a : Addr} {c : Str} {dd : Option Addr} (I : Inv X pins σ H s) (h : H a = some (exv (.ref (He.ga X.K c)) dd a)) (hd : ∀ d, dd = some d → ∃ gs, H d = some (.xd gs)) :
    ∃ oe od, PySem.W.InstAt s.heap a oe (He.ga X.K c) od ∧ ((dd = none ∧ od = none) ∨ ∃ d o, dd = some d ∧ od = some o ∧ s.heap.get? d = some o) := by
  obtain ⟨⟨oe, vs, ho, hz, hv⟩, _, _⟩ := I.hok a _ h
  have nc : PySem.W.notCls oe = true := by unfold PySem.W.notCls; rw [hv] <;> rfl
  cases dd with
  | none => exact ⟨oe, none, ⟨ho, hz.1, nc, by rw [hz.2]; trivial⟩, .inl ⟨rfl, rfl⟩⟩
  | some d =>
    obtain ⟨gs, hg⟩ := hd d rfl
    have hx : ObjOk X.prog X.w H s.heap d (.xd gs) := I.hok d _ hg
    obtain ⟨mA, hns, hr⟩ := hx
    obtain ⟨od, hod, hl⟩ := lookIn_ns hns
    exact ⟨oe, some od, ⟨ho, hz.1, nc, by rw [hz.2]; exact hod⟩, .inr ⟨d, od, rfl, rfl, hod⟩⟩
theorem exc_there {K : PySem.W.Frag} {H : Hp} {m : List Addr} {S : Sto} {n : Nat} {c : Str} {fs : List (Str × D)} {v : V} (rs : RS K H m S) (e : S[n]? = some (.exc c fs)) (r : RV K H m (.ref n) v) :
    ∃ a dd, v = .ref a ∧ H a = some (exv (.ref (He.ga K c)) dd a) ∧ ((fs = [] ∧ dd = none) ∨ ∃ d gs, dd = some d ∧ H d = some (.xd gs) ∧ RFs K H m fs gs) := by
  cases r with
  | ref hm =>
    obtain ⟨a, h1, dd, h2, h3⟩ := rs.at_ n _ e
    rw [hm] at h1
    cases h1
    exact ⟨_, dd, rfl, h2, h3.2⟩
/-- what isinstance asks of such a value -/
theorem kitD {pins : List (Addr × Obj)} {σ : L2.St} {H : Hp} {s : Shared} {m : List Addr} {S : Sto} {d : D} {x : V} {u : Value} {t : CK} {tab : Tab} {k : CK} {b : Bool} (CO : ClsOk X.K tab) (I : Inv X pins σ H s) (rs : RS X.K H m S) (rd : RV X.K H m d x) (rx : RelV x u) (ht : tyC d S = some t) (hk : isOf tab t k = some b) :
    ∃ P : Heap → Prop, PySem.W.KitX X.K u (ckV X.K t) P ∧ P s.heap ∧ u ≠ .builtin "__main__.__loader__#opaque" := by
  have lcase : ∀ {a : Addr} {vs : List V}, SqL X.K H a vs → TyX X.K H (.ref a) (.type "list") := by
    intro a vs h
    rcases h with (h | ⟨o, h⟩) | ⟨o, its, n, h1, h2, _⟩
    · exact .base (.lst h)
    · exact .base (.frz h)
    · exact .kList h1 h2
  cases rd with
  | non => cases ht; exact kit_of I rx (.base .non)
  | bl b => cases ht; exact kit_of I rx (.base (.bl b))
  | int b => cases ht; exact kit_of I rx (.base (.int b))
  | str b => cases ht; exact kit_of I rx (.base (.str b))
  | tup h1 h2 =>
    cases ht
    rcases h1 with (h | ⟨o, h⟩) | ⟨o, its, n, h1, h2, _⟩
    · exact kit_of I rx (.base (.tup h))
    · exact kit_of I rx (.fTuple h)
    · exact kit_of I rx (.kTuple h1 h2)
  | fl h1 h2 => cases ht; exact kit_of I rx (lcase h1.sq)
  | emp h1 => cases ht; exact kit_of I rx (.base (.dK h1))
  | ref h1 =>
    rename_i n a
    cases e : S[n]? with
    | none => simp [tyC, e] at ht
    | some c =>
      cases c with
      | lst xs =>
        simp only [tyC, e, Option.some.injEq] at ht
        subst ht
        obtain ⟨a', vs, e1, q2, q3, q4⟩ := rs.list e (.ref h1)
        cases e1
        exact kit_of I rx (lcase (SqL.of q3))
      | exc c fs =>
        simp only [tyC, e, Option.some.injEq] at ht
        subst ht
        obtain ⟨a', dd, e1, q2, q3⟩ := exc_there rs e (.ref h1)
        cases e1
        cases rx
        have hd : ∀ d, dd = some d → ∃ gs, H d = some (.xd gs) := fun d z => by
          rcases q3 with ⟨_, q⟩ | ⟨d', gs, q, q5, _⟩
          · rw [q] at z; cases z
          · rw [q] at z; cases z; exact ⟨gs, q5⟩
        obtain ⟨oe, od, J, _⟩ := exc_inst I q2 hd
        have F := CO.ex c k b (by
          cases k with
          | ty _ => exact hk
          | own _ => exact hk)
        have ds := CO.ds
        unfold dscB at ds
        simp only [Bool.and_eq_true, decide_eq_true_eq] at ds
        exact ⟨_, PySem.W.kitx_exc (ox := oe) (od := od) F.cls F.ga F.gg F.sub F.cl ds.1 ds.2 F.mro, J, fun z => nomatch z⟩
      | ins c fs => simp [tyC, e] at ht
theorem gIsi_at {tab : Tab} {cs : List CK} {d : D} {S : Sto} {K : PySem.W.Frag} {H : Hp} {m : List Addr} {σ : L2.St} {Q : VK} (p : PV K W H m σ (gIsi tab cs d S) Q) : ∃ t b, tyC d S = some t ∧ isAny tab t cs = some b ∧ PV K W H m σ (.ok (.bl b) S) Q := by
  unfold gIsi at p
  cases e : tyC d S with
  | none => simp only [e] at p; exact p.elim
  | some t =>
    simp only [e] at p
    cases e2 : isAny tab t cs with
    | none => simp only [e2] at p; exact p.elim
    | some b => simp only [e2] at p; exact ⟨t, b, rfl, e2, p⟩
/-- isinstance(e, C) -/
theorem e_isi {a c : Expr} {f : FE} {tab : Tab} {k : CK} {cv : V} (CO : ClsOk X.K tab) (hg : Gl X "isinstance") (hm : X.mg "isinstance" = none) (ha : PE X a (tE X.K W f)) (hc : PE X c (tC cv)) (hcv : ∀ u, RelV cv u → u = ckV X.K k) (h2 : starEach (a :: [c]) X.env = (false, eval a X.env) :: starEach [c] X.env := by rfl)
    (h3 : starEach (c :: []) X.env = (false, eval c X.env) :: starEach [] X.env := by rfl) (h4 : (backTo pos (starEach [c] X.env)).any (·.1) = false := by rfl) :
    PE X (.Call (.Name "isinstance" p) [a, c] [] pos) (tE X.K W (vUn (gIsi tab [k]) f)) := by
  have hr : CallR X (.builtin "isinstance") (fun vs H Q => ∃ x m S d σ, vs = [x, cv] ∧ RS X.K H m S ∧ RV X.K H m d x ∧ PV X.K W H m σ (gIsi tab [k] d S) Q) := by
    intro pins s σ H xs us Q I r ⟨x, m, S, d, σ', e0, rs, rd, p⟩
    subst e0
    obtain ⟨u1, u2, rfl, r1, r2⟩ := Vals.two r
    obtain ⟨t, b, ht, hb, q⟩ := gIsi_at p
    have hb1 : isOf tab t k = some b := by
      unfold isAny at hb
      cases e : isOf tab t k with
      | none => simp [e] at hb
      | some b0 => cases b0 <;> simp [e, isAny] at hb <;> rw [hb]
    obtain ⟨P, Z, pz, hx⟩ := kitD CO I rs rd r1 ht hb1
    rw [hcv u2 r2]
    exact PySem.W.kia_one Z I.kIn pz (isOf_ok CO.tb hb1) hx fun tk => ⟨.bl b, H, I.tok tk, rfl, q H m _ Le.refl rs (.bl b)⟩
  refine ⟨fun pins s σ H Q I h => (pe_callB hr hg hm (by decide +kernel) (pa_cons ha (pa_cons hc pa_nil h3) h2) (he := h2) (hpl := h4)).run pins s σ H Q I ?_⟩
  exact (tE.then (k := fun _ d S1 => gIsi tab [k] d S1) h).mono fun v H1 ⟨m, E, S, d, re, rs, rv, q⟩ => ⟨v, m, S, d, σ, rfl, rs, rv, q⟩
/-- isinstance(e, (C1, C2, ..)) -/
theorem e_isiT {a : Expr} {cs : List Expr} {f : FE} {tab : Tab} {ks : List CK} {cvs : List V} {kk tp} {tcs : TA} (CO : ClsOk X.K tab) (hne : ks ≠ []) (hg : Gl X "isinstance") (hm : X.mg "isinstance" = none) (ha : PE X a (tE X.K W f)) (hc : PA X cs tcs) (htc : ∀ σ H Q, Q cvs H → tcs σ H Q) (hz : cvs.length ≤ 100) (hcv : ∀ us, Vals cvs us → us = ks.map (ckV X.K))
    (h2 : starEach (a :: [.Tuple cs kk tp]) X.env = (false, eval a X.env) :: starEach [.Tuple cs kk tp] X.env := by rfl)
    (h3 : starEach (.Tuple cs kk tp :: []) X.env = (false, eval (.Tuple cs kk tp) X.env) :: starEach [] X.env := by rfl) (h4 : (backTo pos (starEach [.Tuple cs kk tp] X.env)).any (·.1) = false := by rfl) :
    PE X (.Call (.Name "isinstance" p) [a, .Tuple cs kk tp] [] pos) (tE X.K W (vUn (gIsi tab ks) f)) := by
  have hr : CallR X (.builtin "isinstance") (fun vs H Q => ∃ x q m S d σ, vs = [x, .ref q] ∧ H q = some (.tup cvs) ∧ RS X.K H m S ∧ RV X.K H m d x ∧ PV X.K W H m σ (gIsi tab ks d S) Q) := by
    intro pins s σ H xs us Q I r ⟨x, tq, m, S, d, σ', e0, hq, rs, rd, p⟩
    subst e0
    obtain ⟨u1, u2, rfl, r1, r2⟩ := Vals.two r
    cases (show u2 = Value.ref tq from r2)
    obtain ⟨t, b, ht, hb, q⟩ := gIsi_at p
    obtain ⟨k0, b0, hb0⟩ : ∃ k0 b0, isOf tab t k0 = some b0 := by
      cases ks with
      | nil => exact absurd rfl hne
      | cons k0 r =>
        unfold isAny at hb
        cases e : isOf tab t k0 with
        | none => simp [e] at hb
        | some b0 => exact ⟨k0, b0, e⟩
    obtain ⟨P, Z, pz, hx⟩ := kitD CO I rs rd r1 ht hb0
    obtain ⟨_, its, rv, o, h1, h2, n, h3⟩ := (show ObjOk X.prog X.w H s.heap tq (.tup cvs) from I.hok tq _ hq)
    have e3 := hcv _ rv
    subst e3
    obtain ⟨oc, od, dt, sl⟩ := o
    simp only at h2 h3
    subst h2 h3
    exact PySem.W.kia_tup Z I.kIn pz h1 (isAny_ok CO.tb hb) hx fun tk => ⟨.bl b, H, I.tok tk, rfl, q H m _ Le.refl rs (.bl b)⟩
  refine ⟨fun pins s σ H Q I h => (pe_callB hr hg hm (by decide +kernel) (pa_cons ha (pa_cons (pe_tup hc) pa_nil h3) h2) (he := h2) (hpl := h4)).run pins s σ H Q I ?_⟩
  refine (tE.then (k := fun _ d S1 => gIsi tab ks d S1) h).mono fun v H1 ⟨m, E, S, d, re, rs, rv, q⟩ => ?_
  refine htc σ H1 _ ⟨Nat.le_trans hz (by decide), fun tq hq => ?_⟩
  have l1 : Le X.K H1 m (upd H1 tq (.tup cvs)) m := Le.new hq
  exact ⟨v, tq, m, S, d, σ, rfl, upd_same, rs.side hq, rv.up l1, PV.re l1 q⟩
/-- e.f, e an exception that a name holds -/
def gFld (cl : List Str) (f : Str) (d : D) (S : Sto) : Res := match d with
  | .ref n => (match S[n]? with
    | some (.exc c fs) => if c ∈ cl then (match fs.lookup f with
      | some y => .ok y S
      | none => .bad) else .bad
    | _ => .bad)
  | _ => .bad
theorem RFs.look {K H m} {fs : List (Str × D)} {gs : List (Str × V)} {f : Str} {d : D} (h : RFs K H m fs gs) (e : fs.lookup f = some d) : ∃ v, gs.lookup f = some v ∧ RV K H m d v := by
  induction h with
  | nil => cases e
  | cons r t ih =>
    rename_i p q l1 l2
    obtain ⟨k, d'⟩ := p
    obtain ⟨k', v'⟩ := q
    obtain ⟨r1, r2⟩ := r
    dsimp only at r1 r2
    subst r1
    rw [List.lookup_cons] at e ⊢
    by_cases z : f == k
    · simp only [z] at e ⊢
      cases e
      exact ⟨v', rfl, r2⟩
    · simp only [z] at e ⊢
      exact ih e
theorem e_xf {e : Expr} {f : Str} {fe : FE} {cl : List Str} (hF : ∀ c ∈ cl, ExcF X.K c ∧ PySem.W.findIn X.K (.ref (He.ga X.K c)) f = some none) (he : PE X e (tE X.K W fe)) (hb : attributeBase e f X.env (eval e X.env) = eval e X.env := by rfl) :
    PE X (.Attribute e f pos) (tE X.K W (vUn (gFld cl f) fe)) := by
  refine ⟨fun pins s σ H Q I h => ?_⟩
  refine attr_of hb (thn (he.run pins s σ H _ I (tE.then (k := fun _ d S1 => gFld cl f d S1) h)) fun u s1 ⟨x, H1, I1, rx, m, E, S, d, re, rs, rd, q⟩ => ?_)
  cases rd with
  | ref h1 =>
    rename_i n a
    simp only [gFld] at q
    cases ec : S[n]? with
    | none => simp only [ec] at q; exact q.elim
    | some c =>
      cases c with
      | exc c fs =>
        simp only [ec] at q
        by_cases hc : c ∈ cl
        · rw [if_pos hc] at q
          cases el : fs.lookup f with
          | none => simp only [el] at q; exact q.elim
          | some y =>
            simp only [el] at q
            obtain ⟨F, hno⟩ := hF c hc
            obtain ⟨a', dd, e1, q2, q3⟩ := exc_there rs ec (.ref h1)
            cases e1
            cases rx
            rcases q3 with ⟨z, _⟩ | ⟨dx, gs, rfl, hx, rf⟩
            · subst z; cases el
            · obtain ⟨v, hv, rv⟩ := rf.look el
              obtain ⟨oe, od, J, J2⟩ := exc_inst I1 q2 (fun d z => by cases z; exact ⟨gs, hx⟩)
              have ox : ObjOk X.prog X.w H1 s1.heap dx (.xd gs) := I1.hok dx _ hx
              obtain ⟨mA, hns, hr⟩ := ox
              obtain ⟨od', ho, hl⟩ := lookIn_ns hns
              obtain ⟨u, hu, ru⟩ := RelO.some_of (v := v) (o := mA f) (by rw [← hv]; exact hr f)
              have eo : od = some od' := by
                rcases J2 with ⟨z, _⟩ | ⟨d2, o2, z1, z2, z3⟩
                · cases z
                · cases z1
                  rw [z3] at ho
                  cases ho
                  exact z2
              subst eo
              exact PySem.HandSPX.exc_get I1.kIn J F.ga F.gg F.sub (PySem.W.findObj_own F.hd hno rfl (by rw [hl, hu])) (handed_of ru) ⟨v, H1, I1.tok _, ru, q H1 m v Le.refl rs rv⟩
        · rw [if_neg hc] at q; exact q.elim
      | _ => simp only [ec] at q; exact q.elim
  | _ => exact q.elim
end
end Z
namespace Z
open PySem PySem.Spec PyProof.Rows L2

/-! ## an exception that is caught becomes a value -/
theorem Inv_track {X : Cx} {pins : List (Addr × Obj)} {σ : L2.St} {H : Hp} {s : Shared} {a : Addr} {o : HO} (I : Inv X pins σ H s) (na : H a = none) (n0 : X.s_0.heap.get? a = none) (nL : a ≠ X.env.locals) (nC : ∀ x c, X.env.cells.lookup x = some c → c ≠ a)
    (nP : ∀ p ∈ X.pn ++ pins, p.1 ≠ a) (new : ObjOk X.prog X.w (upd H a o) s.heap a o) : Inv X pins σ (upd H a o) s := by
  have ne : ∀ {b u}, H b = some u → upd H a o b = some u := fun {b u} e => by rw [upd_ne (ne_of_none e na)]; exact e
  refine ⟨I.ok, I.os, I.bare, ⟨I.base.keep, I.base.slot, fun b ob e n hx => ?_, I.base.there, fun b xs e => ne (I.base.tups b xs e), fun b ob u e => ne (I.base.frzs b ob u e), fun b ps e => ?_⟩, I.loc, I.cell, ?_, fun x c e => ?_, fun p hp => ?_, fun b u e => ?_, I.len⟩
  · have nb : b ≠ a := fun z => by subst z; rw [n0] at e; cases e
    rw [upd_ne nb]
    exact I.base.free b ob e n hx
  · obtain ⟨more, q⟩ := I.base.tbls b ps e
    exact ⟨more, ne q⟩
  · rw [upd_ne (Ne.symm nL)]; exact I.free
  · rw [upd_ne (nC x c e)]; exact I.freeC x c e
  · obtain ⟨e, n, ne', nf, d⟩ := I.pin p hp
    exact ⟨e, by rw [upd_ne (nP p hp)]; exact n, ne', nf, d⟩
  · by_cases hb : b = a
    · subst hb
      rw [upd_same] at e
      cases e
      exact new
    · rw [upd_ne hb] at e
      exact (I.hok b u e).stay (fun c v _ q => q) (fun c q => ne q) fun c xs q => ne q
theorem fly_keeps {B h h' : Heap} {l : List Env} {a : Addr} {Z : Obj → Prop} (fl : PySem.HandSPX.FlyingZ B l a Z h) (k : ∀ b o, h.get? b = some o → h'.get? b = some o) : PySem.HandSPX.FlyingZ B l a Z h' := by
  obtain ⟨f1, f2, f3, oe, vs, T, oT, ts, e1, e2, e3, e4, e5, e6, e7, e8, e9⟩ := fl
  exact ⟨fun b o e => k b o (f1 b o e), f2, Heap.FunFrames.of_keeps (fun b o e _ => ⟨o, k b o e, rfl⟩) f3, oe, vs, T, oT, ts, k _ _ e1, e2, e3, e4, e5, e6, k _ _ e7, e8, e9⟩
/-- what an except clause asks: t is the class expression -/
def ExT (X : Cx) (t : Expr) (cls : Value) (b : Bool) : Prop := ∀ (a : Addr) (pn : List (Addr × Obj)) (s : Shared) (σ : L2.St) (H : Hp) (Q : Bool → Shared → Prop) (E : Value → Shared → Prop), Inv (X.suite a pn) [] σ H s → PySem.W.Looks (model X.prog X.w) s.heap (typeOf (.ref a)) cls →
  (∀ h' tk, (∀ q o, s.heap.get? q = some o → h'.get? q = some o) → Q b { s with heap := h', toks := tk }) →
  wpAny (model X.prog X.w) (X.A.mark (some (.ref a))) (eval t X.env) (fun c s1 => wpAny (model X.prog X.w) (X.A.mark (some (.ref a))) (excMatches (.ref a) c) Q E s1) E s
theorem name_at {X : Cx} {x : Str} {np : Pos} {c : Value} {a : Addr} {pn : List (Addr × Obj)} {s : Shared} {σ : L2.St} {H : Hp} {Q : Value → Shared → Prop} {E : Value → Shared → Prop} (n : Names X x c) (I : Inv (X.suite a pn) [] σ H s) (q : Q c s) : wpAny (model X.prog X.w) (X.A.mark (some (.ref a))) (eval (.Name x np) X.env) Q E s := by
  obtain ⟨hg, hdbg, hm | ⟨hm, hv, hnn⟩⟩ := n
  · exact ld_glob (X := X.suite a pn) I hg hm q hdbg
  · exact ld_blt (X := X.suite a pn) I hg hm hv q hnn hdbg
theorem ext1 {X : Cx} {x : Str} {np : Pos} {c cls : Value} {b : Bool} (n : Names X x c) (he : PySem.W.exmOne X.K cls c = some b) : ExT X (.Name x np) cls b := fun a pn s σ H Q E I LT q =>
  name_at n I ((PySem.W.exm_one (M := model X.prog X.w) I.kIn LT he).here (q s.heap s.toks fun _ _ z => z))
theorem ext2 {X : Cx} {x1 x2 : Str} {p1 p2 tp : Pos} {kk : Nat} {c1 c2 cls : Value} {b : Bool} (n1 : Names X x1 c1) (n2 : Names X x2 c2) (he : PySem.W.exmAny X.K cls [c1, c2] = some b) : ExT X (.Tuple [.Name x1 p1, .Name x2 p2] kk tp) cls b := fun a pn s σ H Q E I LT q => by
  refine wpAny_Tuple (wpAny_items_cons (name_at n1 I (wpAny_items_cons (name_at n2 I (wpAny_items_nil ⟨by size_fits, ?_⟩)))))
  have kp : ∀ q o, s.heap.get? q = some o → (s.heap.push { cls := .type "tuple", data := .seq [c1, c2].toArray }).get? q = some o := fun _ _ z => Heap.get?_push_of_some _ z
  exact (PySem.W.exm_tup2 (M := model X.prog X.w) (I.kIn.keeps kp) (LT.keeps kp) (Heap.get?_push_size s.heap rfl) he).here (q _ s.toks kp)

/-- which classes a clause takes: told for the exceptions that may come -/
def sTry (b : FS) (caught : Str → Option Bool) (i : Nat) (suite : FS) : FS := fun E S => match b E S with
  | .exc c fs E1 S1 => (match caught c with
    | some true => (match suite (E1.set i (some (.ref S1.length))) (S1 ++ [.exc c fs]) with
      | .nx E2 S2 => .nx (E2.set i none) S2
      | .brk E2 S2 => .brk (E2.set i none) S2
      | .cnt E2 S2 => .cnt (E2.set i none) S2
      | .ret d S2 => .ret d S2
      | _ => .bad)
    | some false => .exc c fs E1 S1
    | none => .bad)
  | r => r
section
variable {X : Cx} {W : WX} {n : Str} {i : Nat} {body suite : List Stmt} {b₀ : Stmt} {t : Expr} {pos pos' : Pos} {fb fs : FS} {caught : Str → Option Bool}
theorem s_try (hs : X.stack = X.env :: X.outer) (hf : X.env.frame = some X.env.locals) (hex : X.ex = []) (hN : X.N.Nodup) (hi : X.N[i]? = some n) (hln : X.env.kindOf n = some .local) (tk : Takes X W)
    (ht : ∀ c b, caught c = some b → ExT X t (.ref (He.ga X.K c)) b)
    (hb : ∀ (W' : WX) (pn : List (Addr × Obj)) (xe : Value → Shared → Prop), Takes (X.tr pn xe) W' → PassesOwn (model X.prog X.w) X.A X.env xe → PSs (X.tr pn xe) body (tS X.K W' fb))
    (hsu : ∀ (a : Addr) (pn : List (Addr × Obj)), PSs (X.suite a pn) (b₀ :: suite) (tS X.K wNo fs)) :
    PS X (.Try body [.ExceptHandler (some t) (some n) (b₀ :: suite) pos'] [] [] pos) (tS X.K W (sTry fb caught i fs)) := by
  refine ⟨fun pins s σ H D I h => ?_⟩
  have ok := I.ok
  have hfr : X.A.frames = some (X.env :: X.outer) := by rw [ok.frames, hs]
  have hloc : Loc X.env.scope n := .inl hln
  -- what the clause wishes of an exception
  let Wc : WX := fun cls d σ' H' => ∃ m' E' S' c gs, RE X.K H' m' E' σ' ∧ RS X.K H' m' S' ∧ RX X.K H' m' c gs cls d ∧ PQ X.K W H' m' (match caught c with
    | some true => (match fs (E'.set i (some (.ref S'.length))) (S' ++ [.exc c gs]) with
      | .nx E2 S2 => .nx (E2.set i none) S2
      | .brk E2 S2 => .brk (E2.set i none) S2
      | .cnt E2 S2 => .cnt (E2.set i none) S2
      | .ret d S2 => .ret d S2
      | _ => .bad)
    | some false => .exc c gs E' S'
    | none => .bad) D
  have hbody : tS X.K Wc fb D σ H := by
    obtain ⟨m, E, S, re, rs, q⟩ := h
    refine ⟨m, E, S, re, rs, ?_⟩
    unfold sTry at q
    cases e : fb E S with
    | exc c gs E1 S1 =>
      rw [e] at q
      exact fun H1 m1 σ1 cls dd l re1 rs1 rx => ⟨m1, E1, S1, c, gs, re1, rs1, rx, PQ.re l q⟩
    | nx E1 S1 => rw [e] at q; exact q
    | brk E1 S1 => rw [e] at q; exact q
    | cnt E1 S1 => rw [e] at q; exact q
    | ret d S1 => rw [e] at q; exact q
    | bad => rw [e] at q; exact q
  refine wpAny_Try_except (wpAny_mono ((hb Wc (X.pn ++ pins) (fun e s₁ => wpAny (model X.prog X.w) X.A (noteFrame e X.env) (fun _ s₂ => wpAny (model X.prog X.w) X.A (setFlight e none) (fun _ s₃ =>
    wpAny (model X.prog X.w) X.A (handleBy e X.env [.ExceptHandler (some t) (some n) (b₀ :: suite) pos']) (SP X pins D) X.xe s₃) X.xe s₂) X.xe s₁) (fun u s' xx => ?_) PassesOwn.looking).run [] s σ H D (I.toTry _) hbody) (fun f s1 hsp => ?_) (fun e s1 he => he))
  · obtain ⟨a, B, sI, pins', σ', H', cls, d, rfl, J', nb, up, sky, na, os, ag, m', E', S', c, gs, re', rs', rx', q⟩ := xx
    have J : Inv X pins σ' H' sI := J'.ofTry ok
    have sky' : Sky B (X.env :: X.outer) a (Zc cls d) X.env.locals s'.heap := by rw [← hs]; exact sky
    show wpAny (model X.prog X.w) X.A (noteFrame (.ref a) X.env) _ _ _
    refine Sky.land Zc.steady hfr hf sky' fun h3 fl3 up3 => ?_
    have J3 : Inv X pins σ' H' { s' with heap := h3 } := J.landed nb fl3.1 (up.trans up3) os ag
    obtain ⟨oe3, vs3, he3, hz3, hd3⟩ := fl3.there
    have nfr : a ∉ frs (X.env :: X.outer) := fun hm => by
      obtain ⟨_, o', e', hnf⟩ := fl3.2.2.1.mem hm
      rw [he3] at e'; cases e'
      exact hnf _ hd3
    have nL : a ≠ X.env.locals := fun z => nfr (List.mem_filterMap.mpr ⟨X.env, List.mem_cons_self, by rw [hf, z]⟩)
    have nF : a ∉ X.fs := fun hm => by
      obtain ⟨e, he, q⟩ := List.mem_filterMap.mp hm
      exact nfr (List.mem_filterMap.mpr ⟨e, List.mem_cons_of_mem _ he, q⟩)
    have nSI : sI.heap.get? a = none := by
      cases z : sI.heap.get? a with
      | none => rfl
      | some o =>
        have := nb a o z (by rw [hs]; exact nfr)
        rw [fl3.2.1] at this
        cases this
    have n0 : X.s_0.heap.get? a = none := by
      cases z : X.s_0.heap.get? a with
      | none => rfl
      | some o =>
        obtain ⟨o', q⟩ := J.base.there a o z (by rw [hex]; simp)
        rw [nSI] at q
        cases q
    have nC : ∀ x c, X.env.cells.lookup x = some c → c ≠ a := fun x c e z => by
      obtain ⟨v, o, ho, _⟩ := J.cell x c e
      rw [z, nSI] at ho
      cases ho
    have nP : ∀ p ∈ X.pn ++ pins, p.1 ≠ a := fun p hp z => by
      have := (J.pin p hp).1
      rw [z, nSI] at this
      cases this
    -- the context of the clause: nothing is pinned of the exception itself
    have toS : ∀ {h4 : Heap} {tk : Nat} {H4 : Hp} {σ4 : L2.St}, Inv X pins σ4 H4 { s' with heap := h4, toks := tk } → Inv (X.suite a (X.pn ++ pins)) [] σ4 H4 { s' with heap := h4, toks := tk } := fun {h4 tk H4 σ4} K4 =>
      ⟨K4.ok.suite _ _, K4.os, K4.bare, K4.base, K4.loc, K4.cell, K4.free, K4.freeC, fun p hp => K4.pin p (by rw [List.append_nil] at hp; exact hp), K4.hok, K4.len⟩
    refine wpAny_handleBy_cons (codeAny_handlers_test ?_) (by intro q; cases q)
    have LT : PySem.W.Looks (model X.prog X.w) h3 (typeOf (.ref a)) cls := fun A Q E s k q => wpAny_typeOf_ref (k _ _ he3) (by rw [hz3.1]; exact q)
    obtain ⟨ecls, _⟩ := rx'
    cases hc : caught c with
    | none => simp only [hc] at q; exact q.elim
    | some bc =>
    have hx := ht c bc hc
    rw [← ecls] at hx
    refine hx a (X.pn ++ pins) { s' with heap := h3 } σ' H' _ _ (toS (tk := s'.toks) J3) LT fun h3' tk3 kp => ?_
    have fl3' := fly_keeps fl3 kp
    have up3' : sI.heap.UpToSlots h3' := (up.trans up3).trans (Heap.UpToSlots.of_keeps kp)
    have J3' : Inv X pins σ' H' { s' with heap := h3', toks := tk3 } := J.landed nb fl3'.1 up3' os ag
    cases bc with
    | true =>
      simp only [hc] at q
      refine codeAny_handlers_suite_as ?_
      refine HandSPX.lands_againZ fl3' fun h4 fl4 up4 => ?_
      have J4 : Inv X pins σ' H' { s' with heap := h4, toks := tk3 } := J.landed nb fl4.1 (up3'.trans up4) os ag
      obtain ⟨oe4, vs4, he4, hz4, hd4⟩ := fl4.there
      have T4 : Inv X pins σ' (upd H' a (exv cls d a)) { s' with heap := h4, toks := tk3 } := Inv_track J4 na n0 nL nC nP ⟨⟨oe4, vs4, he4, hz4, hd4⟩, ⟨oe4, he4⟩, fun _ _ ⟨o, v, q, r⟩ k => ⟨o, v, k o q, r⟩⟩
      have S4 := toS (tk := tk3) T4
      have l1 : Le X.K H' m' (upd H' a (exv cls d a)) (m' ++ [a]) := (Le.new na).trans Le.more
      have rx4 : RX X.K (upd H' a (exv cls d a)) (m' ++ [a]) c gs cls d := RX.up l1 (fun d' gs' z => by rw [upd_ne (ne_of_none z na)]; exact z) ⟨ecls, by assumption⟩
      have rs4 : RS X.K (upd H' a (exv cls d a)) (m' ++ [a]) (S' ++ [.exc c gs]) := (rs'.side na).push (rs'.newp na) ⟨d, by rw [upd_same, ecls], by rw [← ecls]; exact rx4⟩
      have ref4 : RV X.K (upd H' a (exv cls d a)) (m' ++ [a]) (.ref S'.length) (.ref a) := .ref (by rw [← rs'.len]; simp)
      have q4 := PQ.re l1 q
      refine store_ok (X := X.suite a (X.pn ++ pins)) (v := .ref a) S4 hN hi hloc rfl (fun s5 S5 => ?_) (.inr hln)
      let D' : Ends := { nx := fun σ' H' => D.nx (σ'.set i none) H', rt := D.rt, bk := fun σ' H' => D.bk (σ'.set i none) H', ct := fun σ' H' => D.ct (σ'.set i none) H' }
      have run := (hsu a (X.pn ++ pins)).run [] s5 (σ'.set i (some (.ref a))) (upd H' a (exv cls d a)) D' S5 ⟨m' ++ [a], _, _, (re'.up l1).set i ref4, rs4, by
        cases ee : fs (E'.set i (some (.ref S'.length))) (S' ++ [.exc c gs]) with
        | nx E2 S2 => rw [ee] at q4; exact fun H6 m6 σ6 l6 re6 rs6 => q4 H6 m6 _ l6 (re6.unset i) rs6
        | brk E2 S2 => rw [ee] at q4; exact fun H6 m6 σ6 l6 re6 rs6 => q4 H6 m6 _ l6 (re6.unset i) rs6
        | cnt E2 S2 => rw [ee] at q4; exact fun H6 m6 σ6 l6 re6 rs6 => q4 H6 m6 _ l6 (re6.unset i) rs6
        | ret d2 S2 => rw [ee] at q4; exact q4
        | exc c2 g2 E2 S2 => rw [ee] at q4; exact q4.elim
        | bad => rw [ee] at q4; exact q4.elim⟩
      refine wpAny_mono run (fun f s6 hsp => ?_) (fun _ _ z => False.elim z)
      have back : ∀ {σ6 : L2.St} {H6 : Hp}, Inv (X.suite a (X.pn ++ pins)) [] σ6 H6 s6 → Inv X pins σ6 H6 s6 := fun {σ6 H6} S6 =>
        ⟨ok, S6.os, S6.bare, S6.base, S6.loc, S6.cell, S6.free, S6.freeC, fun p hp => S6.pin p (by rw [List.append_nil]; exact hp), S6.hok, S6.len⟩
      have end_ : ∀ {σ6 : L2.St} {H6 : Hp} {Q : Shared → Prop}, Inv (X.suite a (X.pn ++ pins)) [] σ6 H6 s6 → (∀ s7, Inv X pins (σ6.set i none) H6 s7 → Q s7) →
          wpAny (model X.prog X.w) X.A (do bindName X.env n .none; unbindBehindTheSuite X.env n pos') (fun _ s7 => Q s7) X.xe s6 := fun {σ6 H6 Q} S6 hq => gone_ok (back S6) hN hi hln hq
      cases f with
      | next => obtain ⟨σ6, H6, S6, q6⟩ := hsp; exact end_ S6 fun s7 J7 => ⟨_, _, J7, q6⟩
      | brk => obtain ⟨σ6, H6, S6, q6⟩ := hsp; exact end_ S6 fun s7 J7 => ⟨_, _, J7, q6⟩
      | cont => obtain ⟨σ6, H6, S6, q6⟩ := hsp; exact end_ S6 fun s7 J7 => ⟨_, _, J7, q6⟩
      | ret u => obtain ⟨v6, σ6, H6, S6, r6, q6⟩ := hsp; exact end_ S6 fun s7 J7 => ⟨_, _, _, J7, r6, q6⟩
    | false =>
      simp only [hc] at q
      show wpAny _ X.A (handleBy (.ref a) X.env []) _ _ _
      have out : ∀ {h' : Heap}, HandSPX.HeldZ B (X.env :: X.outer) a (Zc cls d) X.env.locals h' → h3'.UpToSlots h' → X.xe (.ref a) { s' with heap := h', toks := tk3 } := fun {h'} hh4 up4 =>
        tk _ _ ⟨a, B, sI, pins, σ', H', cls, d, rfl, J, nb, up3'.trans up4, .inr (.inr (by rw [hs]; exact hh4)), na, os, ag, q H' m' σ' cls d Le.refl re' rs' ⟨ecls, by assumption⟩⟩
      refine wpAny_handleBy_nil ?_
      obtain ⟨_, _, _, oe5, vs5, T5, oT5, ts5, g1, g2, g3, g4, _⟩ := id fl3'
      unfold PySem.passOn
      refine wpAny_bind (wpAny_field g1 g3 g4 ?_)
      have nT : ¬ ((Value.ref T5 == Value.none) = true) := by simp
      rw [if_neg nT]
      have fin : wpAny (model X.prog X.w) X.A (setFlight (.ref a) X.env.frame) (fun _ s4 => wpAny (model X.prog X.w) X.A (throw (.ref a) : Sem Flow) (SP X pins D) X.xe s4) X.xe { s' with heap := h3', toks := tk3 } := by
        rw [hf]
        exact HandSPX.setFlight_upZ fl3' fun h4 hh4 up4 => wpAny_throw (out hh4 up4)
      first
        | exact wpAny_bind (wpAny_pure (wpAny_bind fin))
        | exact wpAny_bind fin
  · cases f with
    | next => obtain ⟨σ', H', J', q⟩ := hsp; exact wpAny_execs_nil ⟨σ', H', J'.ofTry ok, q⟩
    | brk => obtain ⟨σ', H', J', q⟩ := hsp; exact ⟨σ', H', J'.ofTry ok, q⟩
    | cont => obtain ⟨σ', H', J', q⟩ := hsp; exact ⟨σ', H', J'.ofTry ok, q⟩
    | ret u => obtain ⟨v, σ', H', J', r, q⟩ := hsp; exact ⟨v, σ', H', J'.ofTry ok, r, q⟩
end
end Z
namespace Z
open PySem PySem.Spec PyProof.Rows L2

/-! ## raise X(e), X's own __init__ one store -/
theorem RC.same {K : PySem.W.Frag} {H H' : Hp} {m : List Addr} {c : Cell} {a : Addr} (s : Same H H') (l : Le K H m H' m) (h : RC K H m c a) : RC K H' m c a := by
  cases c with
  | lst ds => obtain ⟨vs, h3, h4⟩ := h; exact ⟨vs, s _ _ h3, h4.up l⟩
  | exc c fs => obtain ⟨dd, h3, h4⟩ := h; exact ⟨dd, s _ _ h3, h4.up l fun _ _ z => s _ _ z⟩
  | ins c fs => obtain ⟨dx, gs, h3, h4⟩ := h; exact ⟨dx, gs, s _ _ h3, h4.up l⟩
theorem Le.same {K : PySem.W.Frag} {H H' : Hp} {m : List Addr} (s : Same H H') : Le K H m H' m := by
  refine ⟨fun _ _ h => h, fun a xs h => ?_, fun a xs h => ?_, fun a h => s _ _ h⟩
  · rcases h with (h | ⟨ob, h⟩) | h
    · exact .inl (.inl (s _ _ h))
    · exact .inl (.inr ⟨ob, s _ _ h⟩)
    · exact .inr h
  · rcases h with ⟨ob, h⟩ | h
    · exact .inl ⟨ob, s _ _ h⟩
    · exact .inr h
theorem RS.same {K : PySem.W.Frag} {H H' : Hp} {m : List Addr} {S : Sto} (s : Same H H') (h : RS K H m S) : RS K H' m S :=
  ⟨h.len, h.inj, fun i c e => let ⟨a, h1, h2⟩ := h.at_ i c e; ⟨a, h1, RC.same s (Le.same s) h2⟩⟩
/-- the class object of an exception of the text under ValueError -/
def oexB (K : PySem.W.Frag) (C : Addr) : Bool := match K.lookup C with
  | some ⟨.type t, _, .cls cd, sl⟩ => decide (t = "type") && (cd.hasDict && (!cd.hasDel && ((match cd.mro with
    | .ref c :: bm => decide (c = C) && PySem.HandSPX.refsVE bm
    | _ => false) && (match sl.toList with
    | [_, _, _, _, some (.builtin n), _] => decide (n = "ValueError.__new__")
    | _ => false))))
  | _ => false
theorem oexB_ok {K : PySem.W.Frag} {C : Addr} (h : oexB K C = true) : ∃ nm q N bs bm sn sub ab col dd k0 k1 k2 k3 k5, K.lookup C = some (excClassObj nm q C N bs bm true sn sub ab col dd k0 k1 k2 k3 k5 "ValueError.__new__") ∧ PySem.HandSPX.refsVE bm = true := by
  unfold oexB at h
  cases e : K.lookup C with
  | none => rw [e] at h; cases h
  | some o =>
    obtain ⟨oc, od, dt, sl⟩ := o
    rw [e] at h
    cases oc with
    | type t =>
      cases dt with
      | cls cd =>
        obtain ⟨nm, bs, mro, ns, qn, hd, sn, sub, ab, col, del⟩ := cd
        dsimp only at h
        rw [Bool.and_eq_true, Bool.and_eq_true, Bool.and_eq_true, Bool.and_eq_true] at h
        obtain ⟨h1, h2, h3, h4, h5⟩ := h
        have e1 : t = "type" := of_decide_eq_true h1
        subst e1
        cases hd with
        | false => cases h2
        | true =>
          cases del with
          | true => cases h3
          | false =>
            cases mro with
            | nil => cases h4
            | cons r bm =>
              cases r with
              | ref c =>
                dsimp only at h4
                rw [Bool.and_eq_true] at h4
                have e2 : c = C := of_decide_eq_true h4.1
                subst e2
                obtain ⟨l⟩ := sl
                dsimp only at h5
                split at h5
                · rename_i x0 k0 k1 k2 k3 n k5
                  have e3 : n = "ValueError.__new__" := of_decide_eq_true h5
                  subst e3
                  exact ⟨nm, qn, ns, bs, bm, sn, sub, ab, col, od, k0, k1, k2, k3, k5, rfl, h4.2⟩
                · cases h5
              | _ => cases h4
      | _ => cases h
    | _ => cases h
/-- all that is asked of an exception class that is raised with one value -/
def rsB (K : PySem.W.Frag) (c : Str) : Bool := excB K c && (oexB K (He.ga K c) && (decide (PySem.W.findIn K (.ref (He.ga K c)) "__setattr__" = some (some (.builtin "object.__setattr__"))) &&
  (decide (PySem.W.findIn K (.ref (He.ga K c)) "__init__" = some (some (.ref (He.ma K (He.ga K c) "__init__")))) && decide (PySem.W.typeIn K (.ref (He.ma K (He.ga K c) "__init__")) = some (.type "function")))))
structure RsF (K : PySem.W.Frag) (c : Str) : Prop where
  ex : ExcF K c
  ox : OexC K (He.ga K c)
  ini : PySem.W.findIn K (.ref (He.ga K c)) "__init__" = some (some (.ref (He.ma K (He.ga K c) "__init__")))
  ity : PySem.W.typeIn K (.ref (He.ma K (He.ga K c) "__init__")) = some (.type "function")
theorem rsB_ok {K : PySem.W.Frag} {c : Str} (h : rsB K c = true) : RsF K c := by
  unfold rsB at h
  simp only [Bool.and_eq_true, decide_eq_true_eq] at h
  obtain ⟨h1, h2, h3, h4, h5⟩ := h
  have F := excB_ok h1
  exact ⟨F, ⟨oexB_ok h2, h3, F.sub, F.ty, F.kp⟩, h4, h5⟩
/-- __init__(self, f): self.f = f -/
def spI (C : Addr) (f : Str) : Sp := fun vs H Q _ => ∃ a v, vs = [V.ref a, v] ∧ H a = some (exo a C none) ∧ ∀ dx, H dx = none → dx ≠ a → Q .non (upd (upd H dx (exd dx [(f, v)])) a (exo a C (some dx)))
theorem init_ok {P : Program} {w : World} {K : PySem.W.Frag} {mg : Str → Option Value} {base : Heap} {qual f : Str} {params : Arguments} {scope : Scope} {fA C : Addr} {fd : FuncData} {p1 p2 p3 p4 : Pos}
    (F : FunD K "__init__" qual params [.Assign [.Attribute (.Name "self" p1) f p2] (.Name f p3) p4] scope [] [] fA fd) (Sc : FnScope [("self" : Str), f] [("self" : Str), f] scope) (T : OexC K C) (hno : PySem.W.findIn K (.ref C) f = some none)
    (hs : ∀ env : Env, swapsWith (.Name f p3) (some (.Attribute (.Name "self" p1) f p2)) p4.line env = pure false := by intro _; rfl) (hd1 : (f == ("__debug__" : Str)) = false := by decide) (hd2 : (f == ("__classdict__" : Str)) = false := by decide) :
    FnOk P w K mg base CX0 1 fA fd [("self" : Str), f] (spI C f) := by
  refine F.ok Sc (fun vs H Q E ⟨a, v, e, _⟩ => by rw [e]; rfl) fun cdv A outer s H vs Q E hr ⟨a, v, e, h1, h2⟩ => ?_
  subst e
  have vis : ∀ x, x ∈ [("self" : Str), f] → Vis scope x := fun x hx => by
    rcases Sc.par x hx with q | q
    · exact .inl q
    · exact .inr (.inl q)
  refine ⟨_, pss_one (ps_ost (pe_var (i := 0) (x := "self") rfl (vis _ List.mem_cons_self)) (pe_var (i := 1) (x := f) rfl (vis _ (List.mem_cons_of_mem _ List.mem_cons_self)) hd1 hd2) (hs _)), ?_⟩
  exact ⟨v, rfl, .ref a, rfl, a, C, rfl, T, hno, .inl ⟨h1, fun dx n1 n2 => h2 dx n1 n2⟩⟩
def sRaise (c f : Str) (fe : FE) : FS := fun E S => (fe E S).s E fun d S1 => .exc c [(f, d)] E S1
section
variable {X : Cx} {W : WX} {pos pos2 p : Pos}
theorem s_raise {c f : Str} {e : Expr} {fe : FE} {fd : FuncData} (hc : X.calm = true) (tk : Takes X W) (R : RsF X.K c) (hr : Room 2 X.A) (F1 : FnOk X.prog X.w X.K X.mg X.base CX0 1 (He.ma X.K (He.ga X.K c) "__init__") fd [("self" : Str), f] (spI (He.ga X.K c) f)) (hb : Binds X.K fd [("self" : Str), f] [])
    (hg : Gl X c) (hm : X.mg c = some (.ref (He.ga X.K c))) (he : PE X e (tE X.K W fe)) (hdb : (c == ("__debug__" : Str)) = false := by decide) (hst : starEach (e :: []) X.env = (false, eval e X.env) :: starEach [] X.env := by rfl) (hpl : (backTo pos (starEach [] X.env)).any (·.1) = false := by rfl) :
    PS X (.Raise (some (.Call (.Name c p) [e] [] pos)) none pos2) (tS X.K W (sRaise c f fe)) := by
  refine ⟨fun pins s σ H D I h => (ps_raise hc tk (pmk_oex R.ox R.ini R.ity F1 hr hb .nil pass0 hg hm (pa_cons he pa_nil hst) hdb hst hpl)).run pins s σ H D I ?_⟩
  refine (tE.stm (k := fun E d S1 => .exc c [(f, d)] E S1) h).mono fun v H1 ⟨m, E, S, d, re, rs, rv, q⟩ => ⟨(by decide : 1 ≤ 1000), fun a na => ?_⟩
  refine ⟨a, v, rfl, upd_same, fun dx nd nda => ⟨rfl, dx, [(f, v)], upd_same, ?_, ?_, ?_⟩⟩
  · rw [upd_ne nda, upd_same]
  · rw [upd_ne nda] at nd; exact nd
  · have nd1 : H1 dx = none := by rw [upd_ne nda] at nd; exact nd
    have sm : Same H1 (upd (del (upd (upd (upd H1 a (exo a (He.ga X.K c) none)) dx (exd dx [(f, v)])) a (exo a (He.ga X.K c) (some dx))) a) dx (.xd [(f, v)])) := fun b o e => by
      have n1 := ne_of_none e na
      have n2 := ne_of_none e nd1
      rw [upd_ne n2, del_ne n1, upd_ne n1, upd_ne n2, upd_ne n1]
      exact e
    have l := Le.same (K := X.K) (m := m) sm
    exact q _ m σ _ _ l (re.up l) (rs.same sm) ⟨rfl, .inr ⟨dx, _, rfl, upd_same, .cons ⟨rfl, rv.up l⟩ .nil⟩⟩

/-! ## x = [..] -/
theorem s_setLc {i : Nat} {y : Str} {py : Pos} {elt tg iter : Expr} {ifs : List Expr} {scope : Scope} {own : List (Str × Nat)} {it : FI} {pt : Pat} {g : TG} {t : FB} {tt : TT} {e : FE} {spos : Pos} (hc : X.calm = true) (hN : X.N.Nodup) (hy : X.N[i]? = some y) (hyl : X.env.scope.names.lookup y = some .local)
    (hsw : swapsWith (.ListComp elt [⟨tg, iter, ifs, 0⟩] scope pos) (some (.Name y py)) spos.line X.env = pure true) (hi : PI X tg iter (tI X.K W it)) (ok : BlkOk X.N X.env.scope scope own)
    (hg : ∀ (s : Shared) (H : Hp) (C : Addr) (cl : List (Str × Addr)) (fp : List Addr), PG (X.blk s H scope (compEnvC scope cl C X.env) fp) tg g) (hgp : GP X.K pt g) (hown : ∀ i ∈ pt.slots, i ∈ own.map (·.2))
    (ht : ∀ (s : Shared) (H : Hp) (C : Addr) (cl : List (Str × Addr)) (fp : List Addr), PTs (X.blk s H scope (compEnvC scope cl C X.env) fp) ifs tt) (htt : ∀ σ H Q, tT X.K wNo t σ H Q → tt σ H Q)
    (he : ∀ (s : Shared) (H : Hp) (C : Addr) (cl : List (Str × Addr)) (fp : List Addr), PE (X.blk s H scope (compEnvC scope cl C X.env) fp) elt (tE X.K wNo e)) (hs : ∀ x, foldedSetIterable iter X.env x = pure x := by intro _; rfl) :
    PS X (.Assign [.Name y py] (.ListComp elt [⟨tg, iter, ifs, 0⟩] scope pos) spos) (tS X.K W (sSet i (vLc it pt (own.map (·.2)) t e))) := by
  refine ⟨fun pins s σ H D I h => (ps_setLc hc hN hy hyl hsw hi ok hg ht he hs).run pins s σ H D I ?_⟩
  have h2 := (tE.stm (k := fun E d S1 => .nx (E.set i (some d)) S1) h)
  have h3 : tE X.K W (vLc it pt (own.map (·.2)) t e) σ H (fun x H1 => gName i x σ H1 D.nx) := h2.mono fun v H1 ⟨m, E, S, d, re, rs, rv, q⟩ => q H1 m _ Le.refl (re.set i rv) rs
  exact e_lc.lc_read h3 hgp hown htt
end
end Z
namespace Z
open PySem PySem.Spec PyProof.Rows L2

/-! ## short words for derivations -/
/-- a, b = e1, e2 -/
def sPar (i j : Nat) (l : FL) : FS := fun E S => match l E S with
  | .ok [a, b] S1 => .nx ((E.set i (some a)).set j (some b)) S1
  | .ok _ _ => .bad
  | .exc c fs S1 => .exc c fs E S1
  | .bad => .bad
section
variable {X : Cx} {W : WX} {pos : Pos}
theorem s_par {i j : Nat} {x y : Str} {a b : Expr} {l : FL} {px py pt : Pos} {kt k2 pt2} (hc : X.calm = true) (hN : X.N.Nodup) (hi : X.N[i]? = some x) (hj : X.N[j]? = some y) (hij : i ≠ j)
    (hx : X.env.scope.names.lookup x = some .local) (hy : X.env.scope.names.lookup y = some .local) (ha : PA X [a, b] (tL X.K W l))
    (hw : swappedStores [.Tuple [.Name x px, .Name y py] kt pt] (.Tuple [a, b] k2 pt2) X.env = pure (some [x, y]))
    (hs : swapsWithSole [.Tuple [.Name x px, .Name y py] kt pt] (.Tuple [a, b] k2 pt2) pos.line X.env = pure false := by rfl) : PS X (.Assign [.Tuple [.Name x px, .Name y py] kt pt] (.Tuple [a, b] k2 pt2) pos) (tS X.K W (sPar i j l)) := by
  refine ⟨fun pins s σ H D I h => (ps_par hc hN hi hj hij hx hy ha hw hs).run pins s σ H D I ?_⟩
  obtain ⟨m, E, S, re, rs, q⟩ := h
  refine ⟨m, E, S, re, rs, ?_⟩
  unfold sPar at q
  cases e : l E S with
  | exc c fs S1 => rw [e] at q; exact fun H1 m1 cls dd l rs1 rx => q H1 m1 σ cls dd l (re.up l) rs1 rx
  | bad => rw [e] at q; exact q
  | ok ds S1 =>
    rw [e] at q
    intro H1 m1 vs l1 rs1 rv
    cases rv with
    | nil => exact q.elim
    | cons r1 t =>
      cases t with
      | nil => exact q.elim
      | cons r2 t =>
        cases t with
        | nil => exact ⟨_, _, rfl, q H1 m1 _ l1 (((re.up l1).set i r1).set j r2) rs1⟩
        | cons _ _ => exact q.elim
theorem tk_no : Takes X wNo := fun _ _ ⟨_, _, _, _, _, _, _, _, _, _, _, _, _, _, _, _, w⟩ => w.elim
theorem e_v (i : Nat) {x : Str} (hN : X.N[i]? = some x := by rfl) (hv : Vis X.env.scope x := by first | exact Or.inl rfl | exact Or.inr (Or.inl rfl) | exact Or.inr (Or.inr rfl)) (hd : (x == ("__debug__" : Str)) = false := by decide) (hcd : (x == ("__classdict__" : Str)) = false := by decide) : PE X (.Name x pos) (tE X.K W (vV i)) := e_var hN hv hd hcd
theorem blk_by {X : Cx} {scope : Scope} {own : List (Str × Nat)} (N : List Str) (sc : Scope) (h : blkC N sc scope own = true) (hN : X.N = N := by rfl) (hs : X.env.scope = sc := by rfl) : BlkOk X.N X.env.scope scope own := by
  rw [hN, hs]
  exact blkOk_by h
theorem tt_no : ∀ {K : PySem.W.Frag} (σ : L2.St) (H : Hp) (Q : Bool → Hp → Prop), tT K wNo bTrue σ H Q → tYes σ H Q := fun σ H Q ⟨m, E, S, re, rs, p⟩ => p H m Le.refl rs
theorem tt_id {K : PySem.W.Frag} {t : FB} : ∀ (σ : L2.St) (H : Hp) (Q : Bool → Hp → Prop), tT K wNo t σ H Q → tT K wNo t σ H Q := fun _ _ _ h => h
theorem ck_ty {K : PySem.W.Frag} {n : String} : ∀ u, RelV (.ty n) u → u = ckV K (.ty n) := fun _ h => h
theorem ck_own {K : PySem.W.Frag} {c : Str} : ∀ u, RelV (.ref (He.ga K c)) u → u = ckV K (.own c) := fun _ h => h
theorem cks_nil {K : PySem.W.Frag} : ∀ us, Vals [] us → us = ([] : List CK).map (ckV K) := fun us h => by cases h; rfl
theorem cks_cons {K : PySem.W.Frag} {v : V} {vs : List V} {k : CK} {ks : List CK} (h1 : ∀ u, RelV v u → u = ckV K k) (h2 : ∀ us, Vals vs us → us = ks.map (ckV K)) : ∀ us, Vals (v :: vs) us → us = (k :: ks).map (ckV K) := fun us h => by
  cases h with
  | cons r t => rw [h1 _ r, h2 _ t]; rfl
end
section
variable {K : PySem.W.Frag} {x qual : Str} {params : Arguments} {body : List Stmt} {scope : Scope} {f : Addr} {fd : FuncData} {ps ks : List Str} {n : Nat} {idx : List Nat}
theorem bd0 (F : FunD K x qual params body scope [] [] f fd)
    (h : ∀ (kV doc pm : Value) (an : Option Addr) (cdv ct : Value) (us : List Value), us.length = n + ks.length → bindArgs (PySem.W.fnOf x qual params body scope .none kV doc pm an cdv ct) ⟨us.take n, ks.zip (us.drop n)⟩ = pure (ps.zip (pick idx us))) : Bd K fd ps n ks idx [] := by
  obtain ⟨oc, od, dV, kV, doc, pm, an, cdv, ct, osl, rfl, lk, hcd, hD, hK⟩ := F.ex
  rcases hD with ⟨_, rfl⟩ | ⟨e, _⟩
  · refine ⟨[], [], fun _ _ => .nil, .nil, fun s us _ hl => ?_⟩
    rw [List.append_nil]
    exact .of_eq (h kV doc pm an cdv ct us hl)
  · exact absurd rfl e
theorem bd1 {dvs : List V} {dfl : List D} (F : FunD K x qual params body scope dvs [] f fd) (hne : dvs ≠ []) (hd : ∀ H m, RVs K H m dfl dvs)
    (h : ∀ (T : Addr) (kV doc pm : Value) (an : Option Addr) (cdv ct : Value) (us its : List Value), us.length = n + ks.length → its.length = dvs.length →
      ∃ k, bindArgs (PySem.W.fnOf x qual params body scope (.ref T) kV doc pm an cdv ct) ⟨us.take n, ks.zip (us.drop n)⟩ = seqItems? (.ref T) >>= k ∧ k (some its.toArray) = pure (ps.zip (pick idx (us ++ its)))) : Bd K fd ps n ks idx dfl := by
  obtain ⟨oc, od, dV, kV, doc, pm, an, cdv, ct, osl, rfl, lk, hcd, hD, hK⟩ := F.ex
  rcases hD with ⟨e, _⟩ | ⟨_, T, o, its, m, rfl, lT, oT, rT⟩
  · exact absurd e hne
  · refine ⟨dvs, its, hd, rT, fun s us X hl => BindsTo.of_looks fun M => ?_⟩
    obtain ⟨k, e1, e2⟩ := h T kV doc pm an cdv ct us its hl rT.length.symm
    rw [e1]
    exact looks_items X lT oT (.of_pure e2)
end
/-- the classes of exceptions that may come to a clause, each with the clause's answer -/
def caughtL (l : List (Str × Bool)) (c : Str) : Option Bool := l.lookup c
def caughtB (K : PySem.W.Frag) (l : List (Str × Bool)) (cs : List CK) : Bool := l.all fun p => decide (PySem.W.exmAny K (.ref (He.ga K p.1)) (cs.map (ckV K)) = some p.2)
theorem lk_mem {c : Str} {b : Bool} : ∀ {l : List (Str × Bool)}, l.lookup c = some b → (c, b) ∈ l
  | [], h => by cases h
  | (k', b') :: r, h => by
    rw [List.lookup_cons] at h
    by_cases e : c == k'
    · simp only [e] at h
      cases h
      have e' : c = k' := by simpa using e
      rw [e']
      exact List.mem_cons_self
    · simp only [e] at h
      exact List.mem_cons_of_mem _ (lk_mem h)
theorem caught2 {X : Cx} {l : List (Str × Bool)} {k1 k2 : CK} {x1 x2 : Str} {p1 p2 tp : Pos} {kk : Nat} (h : caughtB X.K l [k1, k2] = true) (n1 : Names X x1 (ckV X.K k1)) (n2 : Names X x2 (ckV X.K k2)) :
    ∀ c b, caughtL l c = some b → ExT X (.Tuple [.Name x1 p1, .Name x2 p2] kk tp) (.ref (He.ga X.K c)) b := fun c b e => by
  have hm := lk_mem e
  unfold caughtB at h
  rw [List.all_eq_true] at h
  exact ext2 n1 n2 (of_decide_eq_true (h _ hm))
theorem exm_any1 {K : PySem.W.Frag} {cls c : Value} {b : Bool} (h : PySem.W.exmAny K cls [c] = some b) : PySem.W.exmOne K cls c = some b := by
  obtain ⟨b1, d1, h1, h2, h3⟩ := PySem.W.exmAny_cons h
  have : d1 = false := by
    have h2' : some false = some d1 := h2
    cases h2'
    rfl
  subst this
  rw [h1, h3, Bool.or_false]
theorem caught1 {X : Cx} {l : List (Str × Bool)} {k1 : CK} {x1 : Str} {p1 : Pos} (h : caughtB X.K l [k1] = true) (n1 : Names X x1 (ckV X.K k1)) :
    ∀ c b, caughtL l c = some b → ExT X (.Name x1 p1) (.ref (He.ga X.K c)) b := fun c b e => by
  have hm := lk_mem e
  unfold caughtB at h
  rw [List.all_eq_true] at h
  exact ext1 n1 (exm_any1 (of_decide_eq_true (h _ hm)))
theorem nm_own {X : Cx} {x : Str} (hg : Gl X x) (hm : X.mg x = some (.ref (He.ga X.K x))) (hd : (x == ("__debug__" : Str)) = false := by decide) : Names X x (ckV X.K (.own x)) := ⟨hg, hd, .inl hm⟩
end Z
namespace Z
open PySem PySem.Spec PyProof.Rows L2
section
variable {X : Cx} {W : WX} {pos : Pos}
/-! ### a tuple of the module's own -/
theorem e_kon {x : Str} {vs : List He.Dv} {ds : List D} (hg : Gl X x) (hm : X.mg x = some (.ref (He.ga X.K x))) (hk : He.tupB X.K x vs = true) (hr : ∀ H m, RVs X.K H m ds (vs.map (He.Dv.v X.K))) (hd : (x == ("__debug__" : Str)) = false := by decide) : PE X (.Name x pos) (tE X.K W (vC (.tup ds))) := by
  refine ⟨fun pins s σ H Q I ⟨m, E, S, re, rs, p⟩ => ?_⟩
  exact (pe_glob (v := .ref (He.ga X.K x)) hg hm rfl hd).run pins s σ H Q I (p H m _ Le.refl rs (.tup (He.tupB_ok hk H) (hr H m)))
theorem e_konI {x : Str} {i : Int} (hg : Gl X x) (hm : ∃ t, X.mg x = some (.int i t)) (hd : (x == ("__debug__" : Str)) = false := by decide) : PE X (.Name x pos) (tE X.K W (vC (.int i))) := by
  obtain ⟨t, hm⟩ := hm
  refine ⟨fun pins s σ H Q I ⟨m, E, S, re, rs, p⟩ => ?_⟩
  exact (pe_glob (v := .int i) hg hm ⟨t, rfl⟩ hd).run pins s σ H Q I (p H m _ Le.refl rs (.int i))
theorem room65 {k : Nat} {A : Around} (r : Room k A) : A.units + 65 < cLine := by have := r.un; omega
/-! ### methods of what the language brings -/
/-- the receiver's kind is looked at ahead of the arguments -/
def vMeth (ty : D → Sto → Bool) (g : D → List D → Sto → Res) (f : FE) (l : FL) : FE := fun E S => (f E S).bind fun x S1 => if ty x S1 then (l E S1).bind fun xs S2 => g x xs S2 else .bad
def isLst (d : D) (S : Sto) : Bool := match d with
  | .ref n => (match S[n]? with
    | some (.lst _) => true
    | _ => false)
  | _ => false
def isStr (d : D) (_ : Sto) : Bool := match d with
  | .str _ => true
  | _ => false
def TyOk (X : Cx) (T : String) (ty : D → Sto → Bool) : Prop := ∀ H m S d x, RS X.K H m S → RV X.K H m d x → ty d S = true → tyV X.K T x H
theorem ty_lst : TyOk X "list" isLst := by
  intro H m S d x rs rd h
  cases d with
  | ref n =>
    cases e : S[n]? with
    | none => simp [isLst, e] at h
    | some c =>
      cases c with
      | lst xs =>
        obtain ⟨a, vs, rfl, _, h2, _⟩ := rs.list e rd
        exact .inl ⟨rfl, vs, SqL.of h2⟩
      | _ => simp [isLst, e] at h
  | _ => simp [isLst] at h
theorem ty_str : TyOk X "str" isStr := by
  intro H m S d x rs rd h
  cases rd with
  | str z => exact (rfl : "str" = "str")
  | _ => simp [isStr] at h
def Quiet (g : D → List D → Sto → Res) : Prop := ∀ d ds S c fs S', g d ds S ≠ .exc c fs S'
theorem PV.anyσ {K : PySem.W.Frag} {H : Hp} {m : List Addr} {σ σ' : L2.St} {r : Res} {Q : VK} (h : PV K W H m σ r Q) (hq : ∀ c fs S', r ≠ .exc c fs S') : PV K W H m σ' r Q := by
  cases r with
  | ok d S => exact h
  | exc c fs S => exact absurd rfl (hq c fs S)
  | bad => exact h
theorem e_meth {o e : Expr} {es : List Expr} {name : Str} {apos : Pos} {T id : String} {ty : D → Sto → Bool} {g : D → List D → Sto → Res} {f : FE} {l : FL} (pa : PlainAttrs T) (slot : Slot T name id) (hty : typeOf (.builtin id) = pure (.type "method_descriptor"))
    (hm : OM X T id g) (hT : TyOk X T ty) (hq : Quiet g) (ho : PE X o (tE X.K W f)) (ha : PA X (e :: es) (tL X.K W l))
    (hbase : attributeBase o name X.env (eval o X.env) = eval o X.env := by rfl)
    (hfew : ((backTo pos (starEach (e :: es) X.env)).all (fun x => !x.1) && (backToKw pos (keywordEach [] X.env)).all (fun x => x.1.isSome)
      && decide ((e :: es).length + ([] : List Keyword).length + (if ([] : List Keyword).isEmpty then 0 else 1) < 30)) = true := by rfl)
    (hline : (apos.endLine == pos.line) = true := by rfl) (hs : starEach (e :: es) X.env = (false, eval e X.env) :: starEach es X.env := by rfl) (hplain : (backTo pos (starEach es X.env)).any (·.1) = false := by rfl) :
    PE X (.Call (.Attribute o name apos) (e :: es) [] pos) (tE X.K W (vMeth ty g f l)) := by
  let r : V → List V → Hp → VK → Prop := fun x xs H Q => ∃ σ m S d ds, RS X.K H m S ∧ RV X.K H m d x ∧ RVs X.K H m ds xs ∧ PV X.K W H m σ (g d ds S) Q
  have hr : MtR X id r := fun pins s σ H x xs v us Q I rx rxs ⟨σ', m, S, d, ds, rs, rd, rds, p⟩ => hm W pins s σ H m S d ds x xs v us Q I rs rd rds rx rxs (p.anyσ (hq d ds S))
  refine ⟨fun pins s σ H Q I h => (pe_bm pa slot hty hr ho ha hbase hfew hline hs hplain).run pins s σ H Q I ?_⟩
  obtain ⟨m, E, S, re, rs, p⟩ := h
  refine ⟨m, E, S, re, rs, ?_⟩
  unfold vMeth at p
  cases e1 : f E S with
  | bad => rw [e1] at p; exact p.elim
  | exc c fs S1 => rw [e1] at p; exact p
  | ok d S1 =>
    rw [e1] at p
    intro H1 m1 v l1 rs1 rv1
    have p1 := PV.re l1 (show PV X.K W H m σ (if ty d S1 then (l E S1).bind fun xs S2 => g d xs S2 else .bad) Q from p)
    by_cases hz : ty d S1 = true
    · rw [if_pos hz] at p1
      refine ⟨hT H1 m1 S1 d v rs1 rv1 hz, m1, E, S1, re.up l1, rs1, ?_⟩
      cases e2 : l E S1 with
      | bad => rw [e2] at p1; exact p1.elim
      | exc c fs S2 => rw [e2] at p1; exact p1
      | ok ds S2 =>
        rw [e2] at p1
        intro H2 m2 vs l2 rs2 rv2
        exact ⟨σ, m2, S2, d, ds, rs2, rv1.up l2, rv2, PV.re l2 (show PV X.K W H1 m1 σ (g d ds S2) Q from p1)⟩
    · rw [if_neg hz] at p1
      exact p1.elim
def gApp (d : D) (ds : List D) (S : Sto) : Res := match d, ds with
  | .ref n, [y] => (match S[n]? with
    | some (.lst xs) => if xs.length < 100000 then .ok .non (S.set n (.lst (xs ++ [y]))) else .bad
    | _ => .bad)
  | _, _ => .bad
theorem q_app : Quiet gApp := by
  intro d ds S c fs S' h
  unfold gApp at h
  split at h
  · split at h
    · split at h <;> cases h
    · cases h
  · cases h
theorem m_app : OM X "list" "list.append" gApp := by
  intro W pins s σ H m S d ds x xs v us Q I rs rd rds rx rxs p
  unfold gApp at p
  split at p
  · rename_i n y
    split at p
    · rename_i zs e
      split at p
      · rename_i hl
        obtain ⟨a, vs, rfl, h1, h2, h3⟩ := rs.list e rd
        cases rds with
        | cons ry rt =>
          cases rt
          obtain ⟨l, rs'⟩ := rs.write e h1 h2 (h3.app (.cons ry .nil))
          exact mt_append pins s σ H _ _ v us Q I rx rxs ⟨a, vs, _, rfl, rfl, h2, by rw [← h3.len]; exact Nat.lt_of_lt_of_le hl (by decide), p _ m _ l rs' .non⟩
      · exact p.elim
    · exact p.elim
  · exact p.elim
/-! ### in, not in, by data -/
def gInP (neg : Bool) (d e : D) (S : Sto) : Res := match toPD S 60 d, toPD S 60 e with
  | some p, some (.tuple ps) => if SeqAt.shaped p && SeqAt.shaped (.tuple ps) then .ok (.bl (if neg then !(ps.any fun z => PyData.eqv z p) else ps.any fun z => PyData.eqv z p)) S else .bad
  | some p, some (.list ps) => if SeqAt.shaped p && SeqAt.shaped (.list ps) then .ok (.bl (if neg then !(ps.any fun z => PyData.eqv z p) else ps.any fun z => PyData.eqv z p)) S else .bad
  | _, _ => .bad
theorem o_inP (hu : X.A.units + 65 < cLine) : O2 X (compareOp .In) (gInP false) := by
  intro W pins s σ H m S d e x y v u Q I rs rd re rx ry p
  unfold gInP at p
  split at p
  · rename_i a ps e1 e2
    split at p
    · rename_i hz
      obtain ⟨z1, z2⟩ := Bool.and_eq_true_iff.mp hz
      obtain ⟨as, r1, _⟩ := reads_of I rs rd rx e1
      obtain ⟨bs, r2, _⟩ := reads_of I rs re ry e2
      exact SeqAt.in_tuple_reads r2 r1 (SeqAt.canLay_of_shaped z2) (SeqAt.canLay_of_shaped z1) (room_in_shaped z1 hu) ⟨.bl _, H, I, rfl, p H m _ Le.refl rs (.bl _)⟩
    · exact p.elim
  · rename_i a ps e1 e2
    split at p
    · rename_i hz
      obtain ⟨z1, z2⟩ := Bool.and_eq_true_iff.mp hz
      obtain ⟨as, r1, _⟩ := reads_of I rs rd rx e1
      obtain ⟨bs, r2, _⟩ := reads_of I rs re ry e2
      exact SeqAt.in_list_reads r2 r1 (SeqAt.canLay_of_shaped z2) (SeqAt.canLay_of_shaped z1) (room_in_shaped z1 hu) ⟨.bl _, H, I, rfl, p H m _ Le.refl rs (.bl _)⟩
    · exact p.elim
  · exact p.elim
theorem o_notinP (hu : X.A.units + 65 < cLine) : O2 X (compareOp .NotIn) (gInP true) := by
  intro W pins s σ H m S d e x y v u Q I rs rd re rx ry p
  unfold gInP at p
  split at p
  · rename_i a ps e1 e2
    split at p
    · rename_i hz
      obtain ⟨z1, z2⟩ := Bool.and_eq_true_iff.mp hz
      obtain ⟨as, r1, _⟩ := reads_of I rs rd rx e1
      obtain ⟨bs, r2, _⟩ := reads_of I rs re ry e2
      exact SeqAt.notIn_tuple_reads r2 r1 (SeqAt.canLay_of_shaped z2) (SeqAt.canLay_of_shaped z1) (room_in_shaped z1 hu) ⟨.bl _, H, I, rfl, p H m _ Le.refl rs (.bl _)⟩
    · exact p.elim
  · rename_i a ps e1 e2
    split at p
    · rename_i hz
      obtain ⟨z1, z2⟩ := Bool.and_eq_true_iff.mp hz
      obtain ⟨as, r1, _⟩ := reads_of I rs rd rx e1
      obtain ⟨bs, r2, _⟩ := reads_of I rs re ry e2
      exact SeqAt.notIn_list_reads r2 r1 (SeqAt.canLay_of_shaped z2) (SeqAt.canLay_of_shaped z1) (room_in_shaped z1 hu) ⟨.bl _, H, I, rfl, p H m _ Le.refl rs (.bl _)⟩
    · exact p.elim
  · exact p.elim
end
end Z
namespace P
open PySem PySem.Spec PyProof.Rows L2 Z
def top (i : Nat) : Stmt := PySem.Challenge.pw_lateshares_k02_fractions_reckoned.main.body.getD i (.Pass ⟨0, 0, 0, 0⟩)
def ct__law_over_right_0 : List (Str × Bool) := [("NoPart", true)]
def itab : Tab := [((.own "NoPart", .own "LateError"), true), ((.own "NoPart", .own "NoPart"), true), ((.own "NoPart", .ty "bool"), false), ((.own "NoPart", .ty "int"), false), ((.own "NoPart", .ty "tuple"), false), ((.ty "NoneType", .own "LateError"), false), ((.ty "NoneType", .own "NoPart"), false), ((.ty "bool", .own "LateError"), false), ((.ty "bool", .own "NoPart"), false), ((.ty "int", .own "LateError"), false), ((.ty "int", .own "NoPart"), false), ((.ty "str", .own "LateError"), false), ((.ty "str", .own "NoPart"), false), ((.ty "tuple", .own "LateError"), false), ((.ty "tuple", .own "NoPart"), false), ((.ty "list", .own "LateError"), false), ((.ty "list", .own "NoPart"), false), ((.ty "dict", .own "LateError"), false), ((.ty "dict", .own "NoPart"), false)]
abbrev st_is_whole : Stmt := top 6
theorem sc_is_whole : FnScope ["thing"] ["thing"] (defScope st_is_whole) := ⟨rfl, rfl, rfl, by decide +kernel, rfl, by decide +kernel, by decide +kernel⟩
noncomputable def b_is_whole : FS := sSeq (sRet (vAnd (vUn (gIsi itab [.ty "int"]) (vV 0)) (vNot (vUn (gIsi itab [.ty "bool"]) (vV 0))))) (sNil)
noncomputable def fn_is_whole : List D → Sto → Res := runS 1 b_is_whole
abbrev st_is_fraction : Stmt := top 7
theorem sc_is_fraction : FnScope ["thing", "n", "d"] ["thing"] (defScope st_is_fraction) := ⟨rfl, rfl, rfl, by decide +kernel, rfl, by decide +kernel, by decide +kernel⟩
noncomputable def b_is_fraction : FS := sSeq (sIf (bOr (bNot (bOf (vUn (gIsi itab [.ty "tuple"]) (vV 0)))) (bCmp gNe (vCall gLen (lCons (vV 0) (lNil))) (vC (.int 2)))) (sSeq (sRet (vC (.bl false))) (sNil)) (sNil)) (sSeq (sPut (.tp [.nm 1, .nm 2]) (vV 0)) (sSeq (sIf (bOr (bNot (bOf (vCall (vFn 1 [0] [] fn_is_whole) (lCons (vV 1) (lNil))))) (bNot (bOf (vCall (vFn 1 [0] [] fn_is_whole) (lCons (vV 2) (lNil)))))) (sSeq (sRet (vC (.bl false))) (sNil)) (sNil)) (sSeq (sRet (vAnd (vBin gGe (vV 2) (vC (.int 1))) (vBin gEq (vCall gGcd (lCons (vV 1) (lCons (vV 2) (lNil)))) (vC (.int 1))))) (sNil))))
noncomputable def fn_is_fraction : List D → Sto → Res := runS 3 b_is_fraction
abbrev st_part : Stmt := top 8
theorem sc_part : FnScope ["n", "d", "common"] ["n", "d"] (defScope st_part) := ⟨rfl, rfl, rfl, by decide +kernel, rfl, by decide +kernel, by decide +kernel⟩
def dfl_part : List D := [.int 1]
noncomputable def b_part : FS := sSeq (sIf (bCmp gEq (vV 1) (vC (.int 0))) (sSeq (sRaise "NoPart" "n" (vV 0)) (sNil)) (sNil)) (sSeq (sSet 2 (vCall gGcd (lCons (vV 0) (lCons (vV 1) (lNil))))) (sSeq (sIf (bCmp gLt (vV 1) (vC (.int 0))) (sSeq (sSet 2 (vUn gNeg (vV 2))) (sNil)) (sNil)) (sSeq (sRet (vTup (lCons (vBin gDiv (vV 0) (vV 2)) (lCons (vBin gDiv (vV 1) (vV 2)) (lNil))))) (sNil))))
noncomputable def fn_part : List D → Sto → Res := runS 3 b_part
abbrev st_plus : Stmt := top 9
theorem sc_plus : FnScope ["one", "other"] ["one", "other"] (defScope st_plus) := ⟨rfl, rfl, rfl, by decide +kernel, rfl, by decide +kernel, by decide +kernel⟩
noncomputable def b_plus : FS := sSeq (sRet (vCall (vFn 2 [0, 1] dfl_part fn_part) (lCons (vBin gAdd (vBin gMul (vBin gIx (vV 0) (vC (.int 0))) (vBin gIx (vV 1) (vC (.int 1)))) (vBin gMul (vBin gIx (vV 1) (vC (.int 0))) (vBin gIx (vV 0) (vC (.int 1))))) (lCons (vBin gMul (vBin gIx (vV 0) (vC (.int 1))) (vBin gIx (vV 1) (vC (.int 1)))) (lNil))))) (sNil)
noncomputable def fn_plus : List D → Sto → Res := runS 2 b_plus
abbrev st_minus : Stmt := top 10
theorem sc_minus : FnScope ["one", "other"] ["one", "other"] (defScope st_minus) := ⟨rfl, rfl, rfl, by decide +kernel, rfl, by decide +kernel, by decide +kernel⟩
noncomputable def b_minus : FS := sSeq (sRet (vCall (vFn 2 [0, 1] dfl_part fn_part) (lCons (vBin gSub (vBin gMul (vBin gIx (vV 0) (vC (.int 0))) (vBin gIx (vV 1) (vC (.int 1)))) (vBin gMul (vBin gIx (vV 1) (vC (.int 0))) (vBin gIx (vV 0) (vC (.int 1))))) (lCons (vBin gMul (vBin gIx (vV 0) (vC (.int 1))) (vBin gIx (vV 1) (vC (.int 1)))) (lNil))))) (sNil)
noncomputable def fn_minus : List D → Sto → Res := runS 2 b_minus
abbrev st_times : Stmt := top 11
theorem sc_times : FnScope ["one", "other"] ["one", "other"] (defScope st_times) := ⟨rfl, rfl, rfl, by decide +kernel, rfl, by decide +kernel, by decide +kernel⟩
noncomputable def b_times : FS := sSeq (sRet (vCall (vFn 2 [0, 1] dfl_part fn_part) (lCons (vBin gMul (vBin gIx (vV 0) (vC (.int 0))) (vBin gIx (vV 1) (vC (.int 0)))) (lCons (vBin gMul (vBin gIx (vV 0) (vC (.int 1))) (vBin gIx (vV 1) (vC (.int 1)))) (lNil))))) (sNil)
noncomputable def fn_times : List D → Sto → Res := runS 2 b_times
abbrev st_over : Stmt := top 12
theorem sc_over : FnScope ["one", "other"] ["one", "other"] (defScope st_over) := ⟨rfl, rfl, rfl, by decide +kernel, rfl, by decide +kernel, by decide +kernel⟩
noncomputable def b_over : FS := sSeq (sIf (bCmp gEq (vBin gIx (vV 1) (vC (.int 0))) (vC (.int 0))) (sSeq (sRaise "NoPart" "n" (vV 0)) (sNil)) (sNil)) (sSeq (sRet (vCall (vFn 2 [0, 1] dfl_part fn_part) (lCons (vBin gMul (vBin gIx (vV 0) (vC (.int 0))) (vBin gIx (vV 1) (vC (.int 1)))) (lCons (vBin gMul (vBin gIx (vV 0) (vC (.int 1))) (vBin gIx (vV 1) (vC (.int 0)))) (lNil))))) (sNil))
noncomputable def fn_over : List D → Sto → Res := runS 2 b_over
abbrev st_is_less : Stmt := top 13
theorem sc_is_less : FnScope ["one", "other"] ["one", "other"] (defScope st_is_less) := ⟨rfl, rfl, rfl, by decide +kernel, rfl, by decide +kernel, by decide +kernel⟩
noncomputable def b_is_less : FS := sSeq (sRet (vBin gLt (vBin gMul (vBin gIx (vV 0) (vC (.int 0))) (vBin gIx (vV 1) (vC (.int 1)))) (vBin gMul (vBin gIx (vV 1) (vC (.int 0))) (vBin gIx (vV 0) (vC (.int 1)))))) (sNil)
noncomputable def fn_is_less : List D → Sto → Res := runS 2 b_is_less
abbrev st_sum_of : Stmt := top 14
theorem sc_sum_of : FnScope ["some", "total", "one"] ["some"] (defScope st_sum_of) := ⟨rfl, rfl, rfl, by decide +kernel, rfl, by decide +kernel, by decide +kernel⟩
noncomputable def b_sum_of : FS := sSeq (sSet 1 (vC (.tup [.int 0, .int 1]))) (sSeq (sFor (iSeq (vV 0)) (.nm 2) (sSeq (sSet 1 (vCall (vFn 2 [0, 1] [] fn_plus) (lCons (vV 1) (lCons (vV 2) (lNil))))) (sNil))) (sSeq (sRet (vV 1)) (sNil)))
noncomputable def fn_sum_of : List D → Sto → Res := runS 3 b_sum_of
abbrev st_least_of : Stmt := top 15
theorem sc_least_of : FnScope ["some", "least", "one"] ["some"] (defScope st_least_of) := ⟨rfl, rfl, rfl, by decide +kernel, rfl, by decide +kernel, by decide +kernel⟩
noncomputable def b_least_of : FS := sSeq (sSet 1 (vBin gIx (vV 0) (vC (.int 0)))) (sSeq (sFor (iSeq (vV 0)) (.nm 2) (sSeq (sIf (bOf (vCall (vFn 2 [0, 1] [] fn_is_less) (lCons (vV 2) (lCons (vV 1) (lNil))))) (sSeq (sSet 1 (vV 2)) (sNil)) (sNil)) (sNil))) (sSeq (sRet (vV 1)) (sNil)))
noncomputable def fn_least_of : List D → Sto → Res := runS 3 b_least_of
abbrev st_greatest_of : Stmt := top 16
theorem sc_greatest_of : FnScope ["some", "greatest", "one"] ["some"] (defScope st_greatest_of) := ⟨rfl, rfl, rfl, by decide +kernel, rfl, by decide +kernel, by decide +kernel⟩
noncomputable def b_greatest_of : FS := sSeq (sSet 1 (vBin gIx (vV 0) (vC (.int 0)))) (sSeq (sFor (iSeq (vV 0)) (.nm 2) (sSeq (sIf (bOf (vCall (vFn 2 [0, 1] [] fn_is_less) (lCons (vV 1) (lCons (vV 2) (lNil))))) (sSeq (sSet 1 (vV 2)) (sNil)) (sNil)) (sNil))) (sSeq (sRet (vV 1)) (sNil)))
noncomputable def fn_greatest_of : List D → Sto → Res := runS 3 b_greatest_of
abbrev st__law_pot : Stmt := top 18
theorem sc__law_pot : FnScope ["_law_script", "_law_k", "_law_cell", "_law_great"] ["_law_script", "_law_k"] (defScope st__law_pot) := ⟨rfl, rfl, rfl, by decide +kernel, rfl, by decide +kernel, by decide +kernel⟩
noncomputable def b__law_pot : FS := sSeq (sSet 2 (vBin gAdd (vBin gMul (vC (.int 5)) (vV 1)) (vCall gLen (lCons (vV 0) (lNil))))) (sSeq (sIf (bCmp gLt (vV 1) (vCall gLen (lCons (vV 0) (lNil)))) (sSeq (sSet 2 (vBin gIx (vV 0) (vV 1))) (sNil)) (sNil)) (sSeq (sSet 3 (vBin gMul (vBin gMod (vCall gAbs (lCons (vV 2) (lNil))) (vCall gInt (lCons (vBin gAdd (vC (.str "1")) (vBin gMul (vC (.str "0")) (vC (.int 300)))) (lNil)))) (vCall gInt (lCons (vBin gGe (vCall gAbs (lCons (vV 2) (lNil))) (vBin gPow (vC (.int 10)) (vC (.int 18)))) (lNil))))) (sSeq (sRet (vLst (lCons (vV 3) (lCons (vBin gMod (vBin gMul (vBin gAdd (vBin gAdd (vBin gMod (vV 2) (vC (.int 2305843009213693951))) (vBin gMul (vBin gMul (vC (.int 6959)) (vV 1)) (vV 1))) (vC (.int 13))) (vC (.int 48271))) (vC (.int 2305843009213693951))) (lNil))))) (sNil))))
noncomputable def fn__law_pot : List D → Sto → Res := runS 4 b__law_pot
abbrev st__law_take : Stmt := top 19
theorem sc__law_take : FnScope ["_law_pot_here", "_law_upto", "_law_digit"] ["_law_pot_here", "_law_upto"] (defScope st__law_take) := ⟨rfl, rfl, rfl, by decide +kernel, rfl, by decide +kernel, by decide +kernel⟩
noncomputable def b__law_take : FS := sSeq (sIf (bCmp gGt (vBin gIx (vV 0) (vC (.int 0))) (vC (.int 0))) (sSeq (sSet 2 (vBin gMod (vBin gIx (vV 0) (vC (.int 0))) (vV 1))) (sSeq (sSub (vBin gDiv (vBin gIx (vV 0) (vC (.int 0))) (vV 1)) (vV 0) (vC (.int 0))) (sSeq (sRet (vV 2)) (sNil)))) (sNil)) (sSeq (sSub (vBin gMod (vBin gAdd (vBin gMul (vBin gIx (vV 0) (vC (.int 1))) (vC (.int 1181783497276652981))) (vC (.int 12345678910987))) (vC (.int 2305843009213693951))) (vV 0) (vC (.int 1))) (sSeq (sRet (vBin gMod (vBin gDiv (vBin gMod (vBin gMul (vBin gDiv (vBin gIx (vV 0) (vC (.int 1))) (vC (.int 65537))) (vBin gAdd (vBin gMod (vBin gIx (vV 0) (vC (.int 1))) (vC (.int 65537))) (vC (.int 3)))) (vC (.int 2305843009213693921))) (vC (.int 97))) (vV 1))) (sNil)))
noncomputable def fn__law_take : List D → Sto → Res := runS 3 b__law_take
abbrev st__law_of : Stmt := top 20
theorem sc__law_of : FnScope ["_law_pot_here", "_law_lot"] ["_law_pot_here", "_law_lot"] (defScope st__law_of) := ⟨rfl, rfl, rfl, by decide +kernel, rfl, by decide +kernel, by decide +kernel⟩
noncomputable def b__law_of : FS := sSeq (sRet (vBin gIx (vV 1) (vCall (vFn 2 [0, 1] [] fn__law_take) (lCons (vV 0) (lCons (vCall gLen (lCons (vV 1) (lNil))) (lNil)))))) (sNil)
noncomputable def fn__law_of : List D → Sto → Res := runS 2 b__law_of
abbrev st__law_reduced : Stmt := top 21
theorem sc__law_reduced : FnScope ["_law_top", "_law_low", "_law_upper", "_law_two", "_law_sign"] ["_law_top", "_law_low"] (defScope st__law_reduced) := ⟨rfl, rfl, rfl, by decide +kernel, rfl, by decide +kernel, by decide +kernel⟩
noncomputable def b__law_reduced : FS := sSeq (sPar 2 3 (lCons (vCall gAbs (lCons (vV 0) (lNil))) (lCons (vCall gAbs (lCons (vV 1) (lNil))) (lNil)))) (sSeq (sWhile (bCmp gGt (vV 3) (vC (.int 0))) (sSeq (sPar 2 3 (lCons (vV 3) (lCons (vBin gMod (vV 2) (vV 3)) (lNil)))) (sNil))) (sSeq (sSet 4 (vIf (bCmp gGt (vV 1) (vC (.int 0))) (vC (.int 1)) (vUn gNeg (vC (.int 1))))) (sSeq (sRet (vTup (lCons (vBin gDiv (vBin gMul (vV 4) (vV 0)) (vV 2)) (lCons (vBin gDiv (vBin gMul (vV 4) (vV 1)) (vV 2)) (lNil))))) (sNil))))
noncomputable def fn__law_reduced : List D → Sto → Res := runS 5 b__law_reduced
abbrev st__law_drawn : Stmt := top 22
theorem sc__law_drawn : FnScope ["_law_pot_here", "_law_top", "_law_low"] ["_law_pot_here"] (defScope st__law_drawn) := ⟨rfl, rfl, rfl, by decide +kernel, rfl, by decide +kernel, by decide +kernel⟩
noncomputable def b__law_drawn : FS := sSeq (sSet 1 (vCall (vFn 2 [0, 1] [] fn__law_of) (lCons (vV 0) (lCons (vLst (lCons (vC (.int 0)) (lCons (vC (.int 1)) (lCons (vC (.int 2)) (lCons (vC (.int 3)) (lCons (vC (.int 5)) (lCons (vC (.int 12)) (lCons (vCall (vFn 2 [0, 1] [] fn__law_take) (lCons (vV 0) (lCons (vC (.int 1000)) (lNil)))) (lCons (vCall (vFn 2 [0, 1] [] fn__law_take) (lCons (vV 0) (lCons (vBin gPow (vC (.int 10)) (vC (.int 12))) (lNil)))) (lNil)))))))))) (lNil))))) (sSeq (sSet 2 (vCall (vFn 2 [0, 1] [] fn__law_of) (lCons (vV 0) (lCons (vLst (lCons (vC (.int 1)) (lCons (vC (.int 1)) (lCons (vC (.int 2)) (lCons (vC (.int 3)) (lCons (vC (.int 4)) (lCons (vC (.int 12)) (lCons (vBin gAdd (vC (.int 1)) (vCall (vFn 2 [0, 1] [] fn__law_take) (lCons (vV 0) (lCons (vC (.int 1000)) (lNil))))) (lCons (vBin gAdd (vC (.int 1)) (vCall (vFn 2 [0, 1] [] fn__law_take) (lCons (vV 0) (lCons (vBin gPow (vC (.int 10)) (vC (.int 11))) (lNil))))) (lNil)))))))))) (lNil))))) (sSeq (sRet (vCall (vFn 2 [0, 1] [] fn__law_reduced) (lCons (vIf (bCmp gGt (vCall (vFn 2 [0, 1] [] fn__law_take) (lCons (vV 0) (lCons (vC (.int 3)) (lNil)))) (vC (.int 0))) (vV 1) (vBin gSub (vC (.int 0)) (vV 1))) (lCons (vV 2) (lNil))))) (sNil)))
noncomputable def fn__law_drawn : List D → Sto → Res := runS 3 b__law_drawn
abbrev st__law_over_right : Stmt := top 23
theorem sc__law_over_right : FnScope ["_law_first", "_law_second", "_law_caught", "_law_found", "_law_due", "error"] ["_law_first", "_law_second"] (defScope st__law_over_right) := ⟨rfl, rfl, rfl, by decide +kernel, rfl, by decide +kernel, by decide +kernel⟩
noncomputable def b__law_over_right : FS := sSeq (sPut (.tp [.nm 2, .nm 3]) (vTup (lCons (vC .non) (lCons (vC .non) (lNil))))) (sSeq (sTry (sSeq (sSet 3 (vCall (vFn 2 [0, 1] [] fn_over) (lCons (vV 0) (lCons (vV 1) (lNil))))) (sNil)) (caughtL ct__law_over_right_0) 5 (sSeq (sSet 2 (vV 5)) (sNil))) (sSeq (sIf (bCmp gEq (vBin gIx (vV 1) (vC (.int 0))) (vC (.int 0))) (sSeq (sRet (vAnd (vUn (gIsi itab [.own "NoPart"]) (vV 2)) (vBin gEq (vCall gRepr (lCons (vUn (gFld ["NoPart"] "n") (vV 2)) (lNil))) (vCall gRepr (lCons (vV 0) (lNil)))))) (sNil)) (sNil)) (sSeq (sSet 4 (vCall (vFn 2 [0, 1] [] fn__law_reduced) (lCons (vBin gMul (vBin gIx (vV 0) (vC (.int 0))) (vBin gIx (vV 1) (vC (.int 1)))) (lCons (vBin gMul (vBin gIx (vV 0) (vC (.int 1))) (vBin gIx (vV 1) (vC (.int 0)))) (lNil))))) (sSeq (sRet (vAnd (vBin (gIsN false) (vV 2) (vC .non)) (vBin gEq (vCall gRepr (lCons (vLst (lCons (vV 3) (lCons (vCall (vFn 2 [1, 0] [] fn_over) (lCons (vV 1) (lCons (vV 0) (lNil)))) (lNil)))) (lNil))) (vCall gRepr (lCons (vBin gMul (vLst (lCons (vV 4) (lNil))) (vC (.int 2))) (lNil)))))) (sNil)))))
noncomputable def fn__law_over_right : List D → Sto → Res := runS 6 b__law_over_right
abbrev st__law_two_right : Stmt := top 24
theorem sc__law_two_right : FnScope ["_law_first", "_law_second", "_law_a", "_law_b", "_law_c", "_law_d", "_law_due", "_law_told", "_law_named", "_law_less", "_law_one_told"] ["_law_first", "_law_second"] (defScope st__law_two_right) := ⟨rfl, rfl, rfl, by decide +kernel, rfl, by decide +kernel, by decide +kernel⟩
noncomputable def b__law_two_right : FS := sSeq (sPut (.tp [.tp [.nm 2, .nm 3], .tp [.nm 4, .nm 5]]) (vTup (lCons (vV 0) (lCons (vV 1) (lNil))))) (sSeq (sSet 6 (vLst (lCons (vCall (vFn 2 [0, 1] [] fn__law_reduced) (lCons (vBin gAdd (vBin gMul (vV 2) (vV 5)) (vBin gMul (vV 4) (vV 3))) (lCons (vBin gMul (vV 3) (vV 5)) (lNil)))) (lCons (vCall (vFn 2 [0, 1] [] fn__law_reduced) (lCons (vBin gSub (vBin gMul (vV 2) (vV 5)) (vBin gMul (vV 4) (vV 3))) (lCons (vBin gMul (vV 3) (vV 5)) (lNil)))) (lCons (vCall (vFn 2 [0, 1] [] fn__law_reduced) (lCons (vBin gMul (vV 2) (vV 4)) (lCons (vBin gMul (vV 3) (vV 5)) (lNil)))) (lNil)))))) (sSeq (sSet 7 (vLst (lCons (vCall (vFn 2 [0, 1] [] fn_plus) (lCons (vV 0) (lCons (vV 1) (lNil)))) (lCons (vCall (vFn 2 [0, 1] [] fn_minus) (lCons (vV 0) (lCons (vV 1) (lNil)))) (lCons (vCall (vFn 2 [0, 1] [] fn_times) (lCons (vV 0) (lCons (vV 1) (lNil)))) (lNil)))))) (sSeq (sSet 8 (vLst (lCons (vCall (vFn 2 [1, 0] [] fn_plus) (lCons (vV 1) (lCons (vV 0) (lNil)))) (lCons (vCall (vFn 2 [1, 0] [] fn_minus) (lCons (vV 1) (lCons (vV 0) (lNil)))) (lCons (vCall (vFn 2 [1, 0] [] fn_times) (lCons (vV 1) (lCons (vV 0) (lNil)))) (lNil)))))) (sSeq (sIf (bOr (bCmp gNe (vCall gRepr (lCons (vV 7) (lNil))) (vCall gRepr (lCons (vV 6) (lNil)))) (bOr (bCmp gNe (vCall gRepr (lCons (vV 8) (lNil))) (vCall gRepr (lCons (vV 6) (lNil)))) (bNot (bOf (vCall gAll (lCons (vLc (iSeq (vV 7)) (.nm 10) [10] (bTrue) (vCall (vFn 1 [0] [] fn_is_fraction) (lCons (vV 10) (lNil)))) (lNil))))))) (sSeq (sRet (vC (.bl false))) (sNil)) (sNil)) (sSeq (sSet 9 (vLst (lCons (vCall (vFn 2 [0, 1] [] fn_is_less) (lCons (vV 0) (lCons (vV 1) (lNil)))) (lCons (vCall (vFn 2 [1, 0] [] fn_is_less) (lCons (vV 1) (lCons (vV 0) (lNil)))) (lNil))))) (sSeq (sIf (bOr (bCmp gNe (vCall gRepr (lCons (vV 9) (lNil))) (vCall gRepr (lCons (vBin gMul (vLst (lCons (vBin gLt (vBin gMul (vV 2) (vV 5)) (vBin gMul (vV 4) (vV 3))) (lNil))) (vC (.int 2))) (lNil)))) (bNot (bOf (vCall (vFn 2 [0, 1] [] fn__law_over_right) (lCons (vV 0) (lCons (vV 1) (lNil))))))) (sSeq (sRet (vC (.bl false))) (sNil)) (sNil)) (sSeq (sRet (vAnd (vBin gEq (vCall (vFn 2 [0, 1] [] fn_minus) (lCons (vCall (vFn 2 [0, 1] [] fn_plus) (lCons (vV 0) (lCons (vV 1) (lNil)))) (lCons (vV 1) (lNil)))) (vV 0)) (vOr (vBin gEq (vV 4) (vC (.int 0))) (vBin gEq (vCall (vFn 2 [0, 1] [] fn_over) (lCons (vCall (vFn 2 [0, 1] [] fn_times) (lCons (vV 0) (lCons (vV 1) (lNil)))) (lCons (vV 1) (lNil)))) (vV 0))))) (sNil))))))))
noncomputable def fn__law_two_right : List D → Sto → Res := runS 11 b__law_two_right
abbrev st__law_row_right : Stmt := top 25
theorem sc__law_row_right : FnScope ["_law_row", "_law_found", "_law_a", "_law_b", "_law_low", "_law_high"] ["_law_row"] (defScope st__law_row_right) := ⟨rfl, rfl, rfl, by decide +kernel, rfl, by decide +kernel, by decide +kernel⟩
noncomputable def b__law_row_right : FS := sSeq (sSet 1 (vTup (lCons (vC (.int 0)) (lCons (vC (.int 1)) (lNil))))) (sSeq (sFor (iSeq (vV 0)) (.tp [.nm 2, .nm 3]) (sSeq (sSet 1 (vCall (vFn 2 [0, 1] [] fn__law_reduced) (lCons (vBin gAdd (vBin gMul (vBin gIx (vV 1) (vC (.int 0))) (vV 3)) (vBin gMul (vV 2) (vBin gIx (vV 1) (vC (.int 1))))) (lCons (vBin gMul (vBin gIx (vV 1) (vC (.int 1))) (vV 3)) (lNil))))) (sNil))) (sSeq (sIf (bCmp gNe (vCall gRepr (lCons (vLst (lCons (vCall (vFn 1 [0] [] fn_sum_of) (lCons (vV 0) (lNil))) (lCons (vCall (vFn 1 [0] [] fn_sum_of) (lCons (vV 0) (lNil))) (lNil)))) (lNil))) (vCall gRepr (lCons (vBin gMul (vLst (lCons (vV 1) (lNil))) (vC (.int 2))) (lNil)))) (sSeq (sRet (vC (.bl false))) (sNil)) (sNil)) (sSeq (sPut (.tp [.nm 4, .nm 5]) (vTup (lCons (vCall (vFn 1 [0] [] fn_least_of) (lCons (vV 0) (lNil))) (lCons (vCall (vFn 1 [0] [] fn_greatest_of) (lCons (vV 0) (lNil))) (lNil))))) (sSeq (sIf (bOr (bCmp gNe (vV 4) (vCall (vFn 1 [0] [] fn_least_of) (lCons (vV 0) (lNil)))) (bOr (bCmp gNe (vV 5) (vCall (vFn 1 [0] [] fn_greatest_of) (lCons (vV 0) (lNil)))) (bOr (bCmp (gInP true) (vV 4) (vV 0)) (bCmp (gInP true) (vV 5) (vV 0))))) (sSeq (sRet (vC (.bl false))) (sNil)) (sNil)) (sSeq (sRet (vCall gAll (lCons (vLc (iSeq (vV 0)) (.tp [.nm 2, .nm 3]) [2, 3] (bTrue) (vAnd (vBin gLe (vBin gMul (vBin gIx (vV 4) (vC (.int 0))) (vV 3)) (vBin gMul (vV 2) (vBin gIx (vV 4) (vC (.int 1))))) (vBin gLe (vBin gMul (vV 2) (vBin gIx (vV 5) (vC (.int 1)))) (vBin gMul (vBin gIx (vV 5) (vC (.int 0))) (vV 3))))) (lNil)))) (sNil))))))
noncomputable def fn__law_row_right : List D → Sto → Res := runS 6 b__law_row_right
abbrev st__law_right : Stmt := top 26
theorem sc__law_right : FnScope ["_law_pot_here", "_law_row", "_law_first", "_law_turn", "_law_second"] ["_law_pot_here"] (defScope st__law_right) := ⟨rfl, rfl, rfl, by decide +kernel, rfl, by decide +kernel, by decide +kernel⟩
noncomputable def b__law_right : FS := sSeq (sSet 1 (vLc (iRng (vBin gAdd (vC (.int 1)) (vCall (vFn 2 [0, 1] [] fn__law_take) (lCons (vV 0) (lCons (vC (.int 7)) (lNil)))))) (.nm 3) [3] (bTrue) (vCall (vFn 1 [0] [] fn__law_drawn) (lCons (vV 0) (lNil))))) (sSeq (sEx (vMeth isLst gApp (vV 1) (lCons (vCall (vFn 2 [0, 1] [] fn__law_of) (lCons (vV 0) (lCons (vV 1) (lNil)))) (lNil)))) (sSeq (sFor (iSeq (vV 1)) (.nm 2) (sSeq (sIf (bNot (bOf (vCall gAll (lCons (vLc (iSeq (vBin gAdd (vV 1) (vLst (lCons (vTup (lCons (vC (.int 0)) (lCons (vC (.int 1)) (lNil)))) (lCons (vTup (lCons (vC (.int 1)) (lCons (vC (.int 1)) (lNil)))) (lCons (vTup (lCons (vUn gNeg (vC (.int 1))) (lCons (vC (.int 1)) (lNil)))) (lNil))))))) (.nm 4) [4] (bTrue) (vCall (vFn 2 [0, 1] [] fn__law_two_right) (lCons (vV 2) (lCons (vV 4) (lNil))))) (lNil))))) (sSeq (sRet (vC (.bl false))) (sNil)) (sNil)) (sNil))) (sSeq (sRet (vAnd (vCall (vFn 1 [0] [] fn__law_row_right) (lCons (vCall gTuple (lCons (vV 1) (lNil))) (lNil))) (vAnd (vCall (vFn 1 [0] [] fn__law_row_right) (lCons (vCall gTuple (lCons (vSl (vV 1) (vC .non) (vInt (vC (.int 1)))) (lNil))) (lNil))) (vBin gEq (vCall (vFn 1 [0] [] fn_sum_of) (lCons (vTup (lNil)) (lNil))) (vTup (lCons (vC (.int 0)) (lCons (vC (.int 1)) (lNil)))))))) (sNil))))
noncomputable def fn__law_right : List D → Sto → Res := runS 5 b__law_right
abbrev st_law : Stmt := top 27
theorem sc_law : FnScope ["_law_script", "_law_k"] ["_law_script"] (defScope st_law) := ⟨rfl, rfl, rfl, by decide +kernel, rfl, by decide +kernel, by decide +kernel⟩
noncomputable def b_law : FS := sSeq (sRet (vCall gAll (lCons (vLc (iRng (vCall gMax2 (lCons (vC (.int 1)) (lCons (vCall gMin2 (lCons (vC (.int 4)) (lCons (vCall gLen (lCons (vV 0) (lNil))) (lNil)))) (lNil))))) (.nm 1) [1] (bTrue) (vCall (vFn 1 [0] [] fn__law_right) (lCons (vCall (vFn 2 [0, 1] [] fn__law_pot) (lCons (vV 0) (lCons (vV 1) (lNil)))) (lNil)))) (lNil)))) (sNil)
noncomputable def fn_law : List D → Sto → Res := runS 2 b_law
abbrev si_NoPart : Stmt := inClass (top 3) 0
theorem sci_NoPart : FnScope ["self", "n"] ["self", "n"] (defScope si_NoPart) := ⟨rfl, rfl, rfl, by decide +kernel, rfl, by decide +kernel, by decide +kernel⟩
structure Fx (K : PySem.W.Frag) (mg : Str → Option Value) : Prop where
  g_LateError : mg "LateError" = some (.ref (He.ga K "LateError"))
  g_NOUGHT : mg "NOUGHT" = some (.ref (He.ga K "NOUGHT"))
  g_NoPart : mg "NoPart" = some (.ref (He.ga K "NoPart"))
  g__law_drawn : mg "_law_drawn" = some (.ref (He.ga K "_law_drawn"))
  g__law_of : mg "_law_of" = some (.ref (He.ga K "_law_of"))
  g__law_over_right : mg "_law_over_right" = some (.ref (He.ga K "_law_over_right"))
  g__law_pot : mg "_law_pot" = some (.ref (He.ga K "_law_pot"))
  g__law_reduced : mg "_law_reduced" = some (.ref (He.ga K "_law_reduced"))
  g__law_right : mg "_law_right" = some (.ref (He.ga K "_law_right"))
  g__law_row_right : mg "_law_row_right" = some (.ref (He.ga K "_law_row_right"))
  g__law_take : mg "_law_take" = some (.ref (He.ga K "_law_take"))
  g__law_two_right : mg "_law_two_right" = some (.ref (He.ga K "_law_two_right"))
  g_greatest_of : mg "greatest_of" = some (.ref (He.ga K "greatest_of"))
  g_is_fraction : mg "is_fraction" = some (.ref (He.ga K "is_fraction"))
  g_is_less : mg "is_less" = some (.ref (He.ga K "is_less"))
  g_is_whole : mg "is_whole" = some (.ref (He.ga K "is_whole"))
  g_least_of : mg "least_of" = some (.ref (He.ga K "least_of"))
  g_minus : mg "minus" = some (.ref (He.ga K "minus"))
  g_over : mg "over" = some (.ref (He.ga K "over"))
  g_part : mg "part" = some (.ref (He.ga K "part"))
  g_plus : mg "plus" = some (.ref (He.ga K "plus"))
  g_sum_of : mg "sum_of" = some (.ref (He.ga K "sum_of"))
  g_times : mg "times" = some (.ref (He.ga K "times"))
  n_abs : mg "abs" = none
  n_all : mg "all" = none
  n_bool : mg "bool" = none
  n_int : mg "int" = none
  n_isinstance : mg "isinstance" = none
  n_len : mg "len" = none
  n_max : mg "max" = none
  n_min : mg "min" = none
  n_range : mg "range" = none
  n_repr : mg "repr" = none
  n_tuple : mg "tuple" = none
  m_gcd : mg "gcd" = some (.builtin "math.gcd")
  d_is_whole : ∃ fd, FunD K "is_whole" "is_whole" (defArgs st_is_whole) (defBody st_is_whole) (defScope st_is_whole) [] [] (He.ga K "is_whole") fd
  d_is_fraction : ∃ fd, FunD K "is_fraction" "is_fraction" (defArgs st_is_fraction) (defBody st_is_fraction) (defScope st_is_fraction) [] [] (He.ga K "is_fraction") fd
  d_part : ∃ fd, FunD K "part" "part" (defArgs st_part) (defBody st_part) (defScope st_part) [.int 1] [] (He.ga K "part") fd
  d_plus : ∃ fd, FunD K "plus" "plus" (defArgs st_plus) (defBody st_plus) (defScope st_plus) [] [] (He.ga K "plus") fd
  d_minus : ∃ fd, FunD K "minus" "minus" (defArgs st_minus) (defBody st_minus) (defScope st_minus) [] [] (He.ga K "minus") fd
  d_times : ∃ fd, FunD K "times" "times" (defArgs st_times) (defBody st_times) (defScope st_times) [] [] (He.ga K "times") fd
  d_over : ∃ fd, FunD K "over" "over" (defArgs st_over) (defBody st_over) (defScope st_over) [] [] (He.ga K "over") fd
  d_is_less : ∃ fd, FunD K "is_less" "is_less" (defArgs st_is_less) (defBody st_is_less) (defScope st_is_less) [] [] (He.ga K "is_less") fd
  d_sum_of : ∃ fd, FunD K "sum_of" "sum_of" (defArgs st_sum_of) (defBody st_sum_of) (defScope st_sum_of) [] [] (He.ga K "sum_of") fd
  d_least_of : ∃ fd, FunD K "least_of" "least_of" (defArgs st_least_of) (defBody st_least_of) (defScope st_least_of) [] [] (He.ga K "least_of") fd
  d_greatest_of : ∃ fd, FunD K "greatest_of" "greatest_of" (defArgs st_greatest_of) (defBody st_greatest_of) (defScope st_greatest_of) [] [] (He.ga K "greatest_of") fd
  d__law_pot : ∃ fd, FunD K "_law_pot" "_law_pot" (defArgs st__law_pot) (defBody st__law_pot) (defScope st__law_pot) [] [] (He.ga K "_law_pot") fd
  d__law_take : ∃ fd, FunD K "_law_take" "_law_take" (defArgs st__law_take) (defBody st__law_take) (defScope st__law_take) [] [] (He.ga K "_law_take") fd
  d__law_of : ∃ fd, FunD K "_law_of" "_law_of" (defArgs st__law_of) (defBody st__law_of) (defScope st__law_of) [] [] (He.ga K "_law_of") fd
  d__law_reduced : ∃ fd, FunD K "_law_reduced" "_law_reduced" (defArgs st__law_reduced) (defBody st__law_reduced) (defScope st__law_reduced) [] [] (He.ga K "_law_reduced") fd
  d__law_drawn : ∃ fd, FunD K "_law_drawn" "_law_drawn" (defArgs st__law_drawn) (defBody st__law_drawn) (defScope st__law_drawn) [] [] (He.ga K "_law_drawn") fd
  d__law_over_right : ∃ fd, FunD K "_law_over_right" "_law_over_right" (defArgs st__law_over_right) (defBody st__law_over_right) (defScope st__law_over_right) [] [] (He.ga K "_law_over_right") fd
  d__law_two_right : ∃ fd, FunD K "_law_two_right" "_law_two_right" (defArgs st__law_two_right) (defBody st__law_two_right) (defScope st__law_two_right) [] [] (He.ga K "_law_two_right") fd
  d__law_row_right : ∃ fd, FunD K "_law_row_right" "_law_row_right" (defArgs st__law_row_right) (defBody st__law_row_right) (defScope st__law_row_right) [] [] (He.ga K "_law_row_right") fd
  d__law_right : ∃ fd, FunD K "_law_right" "_law_right" (defArgs st__law_right) (defBody st__law_right) (defScope st__law_right) [] [] (He.ga K "_law_right") fd
  d_law : ∃ fd, FunD K "law" "law" (defArgs st_law) (defBody st_law) (defScope st_law) [] [] (He.ga K "law") fd
  rs_NoPart : RsF K "NoPart"
  i_NoPart : ∃ fd, FunD K "__init__" "NoPart.__init__" (defArgs si_NoPart) (defBody si_NoPart) (defScope si_NoPart) [] [] (He.ma K (He.ga K "NoPart") "__init__") fd
  fld_n : ∀ c ∈ [("NoPart" : Str)], ExcF K c ∧ PySem.W.findIn K (.ref (He.ga K c)) "n" = some none
  no_NoPart : PySem.W.findIn K (.ref (He.ga K "NoPart")) "n" = some none
  k_NOUGHT : He.tupB K "NOUGHT" [.int 0, .int 1] = true
  cls : ClsOk K itab
  ct__law_over_right_0 : caughtB K ct__law_over_right_0 [.own "LateError"] = true
section
variable {P : Program} {w : World} {K : PySem.W.Frag} {mg : Str → Option Value} {base : Heap}
def Ok_is_whole (P : Program) (w : World) (K : PySem.W.Frag) (mg : Str → Option Value) (base : Heap) : Prop := ∃ fd, FnG P w K mg base 1 (He.ga K "is_whole") fd ["thing"] (spF K 1 fn_is_whole) ∧ PySem.W.keepIn K (.ref (He.ga K "is_whole")) = true ∧ Bd K fd ["thing"] 1 [] [0] []
theorem ok_is_whole (c : Fx K mg)  : Ok_is_whole P w K mg base := by
  obtain ⟨fd, F⟩ := c.d_is_whole
  refine ⟨fd, fn_ok (N := ["thing"]) F sc_is_whole (b := b_is_whole) (fun cdv A outer s H E hg hr => ?_), F.kp, bd0 F (fun _ _ _ _ _ _ us hl => match us, hl with | [_], _ => rfl)⟩
  have tk := takes_of (X := cxOf (L2.CX P w) P w K mg base ["thing"] "is_whole" (defScope st_is_whole) (He.ga K "is_whole") cdv A outer s H E) (E := E) rfl rfl rfl rfl
  have hp := passes_of (X := cxOf (L2.CX P w) P w K mg base ["thing"] "is_whole" (defScope st_is_whole) (He.ga K "is_whole") cdv A outer s H E) rfl
  exact s_cons (s_ret (e_and (e_isi (k := .ty "int") c.cls rfl c.n_isinstance (e_v 0) (pe_bltn (v := .ty "int") rfl c.n_int (by decide +kernel) rfl) ck_ty) (e_one (e_not (e_isi (k := .ty "bool") c.cls rfl c.n_isinstance (e_v 0) (pe_bltn (v := .ty "bool") rfl c.n_bool (by decide +kernel) rfl) ck_ty))))) (s_nil)
def Ok_is_fraction (P : Program) (w : World) (K : PySem.W.Frag) (mg : Str → Option Value) (base : Heap) : Prop := ∃ fd, FnG P w K mg base 2 (He.ga K "is_fraction") fd ["thing"] (spF K 1 fn_is_fraction) ∧ PySem.W.keepIn K (.ref (He.ga K "is_fraction")) = true ∧ Bd K fd ["thing"] 1 [] [0] []
theorem ok_is_fraction (c : Fx K mg) (h_is_whole : Ok_is_whole P w K mg base) : Ok_is_fraction P w K mg base := by
  obtain ⟨fd, F⟩ := c.d_is_fraction
  obtain ⟨fd_is_whole, G_is_whole, k_is_whole, B_is_whole_1_⟩ := h_is_whole
  refine ⟨fd, fn_ok (N := ["thing", "n", "d"]) F sc_is_fraction (b := b_is_fraction) (fun cdv A outer s H E hg hr => ?_), F.kp, bd0 F (fun _ _ _ _ _ _ us hl => match us, hl with | [_], _ => rfl)⟩
  have tk := takes_of (X := cxOf (L2.CX P w) P w K mg base ["thing", "n", "d"] "is_fraction" (defScope st_is_fraction) (He.ga K "is_fraction") cdv A outer s H E) (E := E) rfl rfl rfl rfl
  have hp := passes_of (X := cxOf (L2.CX P w) P w K mg base ["thing", "n", "d"] "is_fraction" (defScope st_is_fraction) (He.ga K "is_fraction") cdv A outer s H E) rfl
  exact s_cons (s_if (PW.pt (w_or (t_not (t_of (e_isi (k := .ty "tuple") c.cls rfl c.n_isinstance (e_v 0) (pe_bltn (v := .ty "tuple") rfl c.n_tuple (by decide +kernel) rfl) ck_ty))) (w_or1 (t_cmp (o_ne hr.units) (nomark _) (e_callB (id := "len") c_len rfl c.n_len (by decide +kernel) (a_cons (e_v 0) (a_nil))) (e_int))))) (s_cons (s_ret (e_bl)) (s_nil)) (s_nil)) (s_cons (s_put (e_v 0) (pg_tup rfl (pgs_cons (pg_name (i := 1) sc_is_fraction.nd rfl (Or.inl rfl)) (pgs_cons (pg_name (i := 2) sc_is_fraction.nd rfl (Or.inl rfl)) (pgs_nil)))) (gp_tp rfl (gps_cons (gp_nm 1) (gps_cons (gp_nm 2) (gps_nil))))) (s_cons (s_if (PW.pt (w_or (t_not (t_of (e_call G_is_whole (hr.mono (by decide)) hg tk rfl c.g_is_whole k_is_whole B_is_whole_1_ (fun ds h => match ds, h with | [_], _ => rfl) (a_cons (e_v 1) (a_nil))))) (w_or1 (t_not (t_of (e_call G_is_whole (hr.mono (by decide)) hg tk rfl c.g_is_whole k_is_whole B_is_whole_1_ (fun ds h => match ds, h with | [_], _ => rfl) (a_cons (e_v 2) (a_nil)))))))) (s_cons (s_ret (e_bl)) (s_nil)) (s_nil)) (s_cons (s_ret (e_and (e_cmp o_ge (nomark _) (e_v 2) (e_int)) (e_one (e_cmp (o_eq hr.units) (nomark _) (e_callM c_gcd rfl c.m_gcd (a_cons (e_v 1) (a_cons (e_v 2) (a_nil)))) (e_int))))) (s_nil))))
def Ok_part (P : Program) (w : World) (K : PySem.W.Frag) (mg : Str → Option Value) (base : Heap) : Prop := ∃ fd, FnG P w K mg base 3 (He.ga K "part") fd ["n", "d"] (spF K 2 fn_part) ∧ PySem.W.keepIn K (.ref (He.ga K "part")) = true ∧ Bd K fd ["n", "d"] 2 [] [0, 1] dfl_part
theorem ok_part (c : Fx K mg)  : Ok_part P w K mg base := by
  obtain ⟨fd, F⟩ := c.d_part
  obtain ⟨fdi_NoPart, FI_NoPart⟩ := c.i_NoPart
  have I_NoPart := init_ok (P := P) (w := w) (mg := mg) (base := base) FI_NoPart sci_NoPart c.rs_NoPart.ox c.no_NoPart
  have J_NoPart : Binds K fdi_NoPart ["self", "n"] [] := FI_NoPart.bindsN fun _ _ _ _ _ _ us hl => match us, hl with | [_, _], _ => rfl
  refine ⟨fd, fn_ok (N := ["n", "d", "common"]) F sc_part (b := b_part) (fun cdv A outer s H E hg hr => ?_), F.kp, bd1 F (by decide) (fun _ _ => .cons (.int _) (.nil)) (fun _ _ _ _ _ _ _ us its h1 h2 => match us, h1, its, h2 with | [_, _], _, [_], _ => ⟨_, rfl, rfl⟩)⟩
  have tk := takes_of (X := cxOf (L2.CX P w) P w K mg base ["n", "d", "common"] "part" (defScope st_part) (He.ga K "part") cdv A outer s H E) (E := E) rfl rfl rfl rfl
  have hp := passes_of (X := cxOf (L2.CX P w) P w K mg base ["n", "d", "common"] "part" (defScope st_part) (He.ga K "part") cdv A outer s H E) rfl
  exact s_cons (s_if (t_cmp (o_eq hr.units) (nomark _) (e_v 1) (e_int)) (s_cons (s_raise rfl tk c.rs_NoPart (hr.mono (by decide)) I_NoPart J_NoPart rfl c.g_NoPart (e_v 0)) (s_nil)) (s_nil)) (s_cons (s_set (i := 2) sc_part.nd rfl (Or.inl rfl) (e_callM c_gcd rfl c.m_gcd (a_cons (e_v 0) (a_cons (e_v 1) (a_nil))))) (s_cons (s_if (t_cmp o_lt (nomark _) (e_v 1) (e_int)) (s_cons (s_set (i := 2) sc_part.nd rfl (Or.inl rfl) (e_un o_neg (e_v 2))) (s_nil)) (s_nil)) (s_cons (s_ret (e_tup (a_cons (e_bin o_div (e_v 0) (e_v 2)) (a_cons (e_bin o_div (e_v 1) (e_v 2)) (a_nil))))) (s_nil))))
def Ok_plus (P : Program) (w : World) (K : PySem.W.Frag) (mg : Str → Option Value) (base : Heap) : Prop := ∃ fd, FnG P w K mg base 4 (He.ga K "plus") fd ["one", "other"] (spF K 2 fn_plus) ∧ PySem.W.keepIn K (.ref (He.ga K "plus")) = true ∧ Bd K fd ["one", "other"] 2 [] [0, 1] [] ∧ Bd K fd ["one", "other"] 0 ["other", "one"] [1, 0] []
theorem ok_plus (c : Fx K mg) (h_part : Ok_part P w K mg base) : Ok_plus P w K mg base := by
  obtain ⟨fd, F⟩ := c.d_plus
  obtain ⟨fd_part, G_part, k_part, B_part_2_⟩ := h_part
  refine ⟨fd, fn_ok (N := ["one", "other"]) F sc_plus (b := b_plus) (fun cdv A outer s H E hg hr => ?_), F.kp, bd0 F (fun _ _ _ _ _ _ us hl => match us, hl with | [_, _], _ => rfl), bd0 F (fun _ _ _ _ _ _ us hl => match us, hl with | [_, _], _ => rfl)⟩
  have tk := takes_of (X := cxOf (L2.CX P w) P w K mg base ["one", "other"] "plus" (defScope st_plus) (He.ga K "plus") cdv A outer s H E) (E := E) rfl rfl rfl rfl
  have hp := passes_of (X := cxOf (L2.CX P w) P w K mg base ["one", "other"] "plus" (defScope st_plus) (He.ga K "plus") cdv A outer s H E) rfl
  exact s_cons (s_ret (e_call G_part (hr.mono (by decide)) hg tk rfl c.g_part k_part B_part_2_ (fun ds h => match ds, h with | [_, _], _ => rfl) (a_cons (e_bin o_add (e_bin o_mul (e_ix (e_v 0) (e_int) (fun _ _ => rfl)) (e_ix (e_v 1) (e_int) (fun _ _ => rfl))) (e_bin o_mul (e_ix (e_v 1) (e_int) (fun _ _ => rfl)) (e_ix (e_v 0) (e_int) (fun _ _ => rfl)))) (a_cons (e_bin o_mul (e_ix (e_v 0) (e_int) (fun _ _ => rfl)) (e_ix (e_v 1) (e_int) (fun _ _ => rfl))) (a_nil))))) (s_nil)
def Ok_minus (P : Program) (w : World) (K : PySem.W.Frag) (mg : Str → Option Value) (base : Heap) : Prop := ∃ fd, FnG P w K mg base 4 (He.ga K "minus") fd ["one", "other"] (spF K 2 fn_minus) ∧ PySem.W.keepIn K (.ref (He.ga K "minus")) = true ∧ Bd K fd ["one", "other"] 2 [] [0, 1] [] ∧ Bd K fd ["one", "other"] 0 ["other", "one"] [1, 0] []
theorem ok_minus (c : Fx K mg) (h_part : Ok_part P w K mg base) : Ok_minus P w K mg base := by
  obtain ⟨fd, F⟩ := c.d_minus
  obtain ⟨fd_part, G_part, k_part, B_part_2_⟩ := h_part
  refine ⟨fd, fn_ok (N := ["one", "other"]) F sc_minus (b := b_minus) (fun cdv A outer s H E hg hr => ?_), F.kp, bd0 F (fun _ _ _ _ _ _ us hl => match us, hl with | [_, _], _ => rfl), bd0 F (fun _ _ _ _ _ _ us hl => match us, hl with | [_, _], _ => rfl)⟩
  have tk := takes_of (X := cxOf (L2.CX P w) P w K mg base ["one", "other"] "minus" (defScope st_minus) (He.ga K "minus") cdv A outer s H E) (E := E) rfl rfl rfl rfl
  have hp := passes_of (X := cxOf (L2.CX P w) P w K mg base ["one", "other"] "minus" (defScope st_minus) (He.ga K "minus") cdv A outer s H E) rfl
  exact s_cons (s_ret (e_call G_part (hr.mono (by decide)) hg tk rfl c.g_part k_part B_part_2_ (fun ds h => match ds, h with | [_, _], _ => rfl) (a_cons (e_bin o_sub (e_bin o_mul (e_ix (e_v 0) (e_int) (fun _ _ => rfl)) (e_ix (e_v 1) (e_int) (fun _ _ => rfl))) (e_bin o_mul (e_ix (e_v 1) (e_int) (fun _ _ => rfl)) (e_ix (e_v 0) (e_int) (fun _ _ => rfl)))) (a_cons (e_bin o_mul (e_ix (e_v 0) (e_int) (fun _ _ => rfl)) (e_ix (e_v 1) (e_int) (fun _ _ => rfl))) (a_nil))))) (s_nil)
def Ok_times (P : Program) (w : World) (K : PySem.W.Frag) (mg : Str → Option Value) (base : Heap) : Prop := ∃ fd, FnG P w K mg base 4 (He.ga K "times") fd ["one", "other"] (spF K 2 fn_times) ∧ PySem.W.keepIn K (.ref (He.ga K "times")) = true ∧ Bd K fd ["one", "other"] 2 [] [0, 1] [] ∧ Bd K fd ["one", "other"] 0 ["other", "one"] [1, 0] []
theorem ok_times (c : Fx K mg) (h_part : Ok_part P w K mg base) : Ok_times P w K mg base := by
  obtain ⟨fd, F⟩ := c.d_times
  obtain ⟨fd_part, G_part, k_part, B_part_2_⟩ := h_part
  refine ⟨fd, fn_ok (N := ["one", "other"]) F sc_times (b := b_times) (fun cdv A outer s H E hg hr => ?_), F.kp, bd0 F (fun _ _ _ _ _ _ us hl => match us, hl with | [_, _], _ => rfl), bd0 F (fun _ _ _ _ _ _ us hl => match us, hl with | [_, _], _ => rfl)⟩
  have tk := takes_of (X := cxOf (L2.CX P w) P w K mg base ["one", "other"] "times" (defScope st_times) (He.ga K "times") cdv A outer s H E) (E := E) rfl rfl rfl rfl
  have hp := passes_of (X := cxOf (L2.CX P w) P w K mg base ["one", "other"] "times" (defScope st_times) (He.ga K "times") cdv A outer s H E) rfl
  exact s_cons (s_ret (e_call G_part (hr.mono (by decide)) hg tk rfl c.g_part k_part B_part_2_ (fun ds h => match ds, h with | [_, _], _ => rfl) (a_cons (e_bin o_mul (e_ix (e_v 0) (e_int) (fun _ _ => rfl)) (e_ix (e_v 1) (e_int) (fun _ _ => rfl))) (a_cons (e_bin o_mul (e_ix (e_v 0) (e_int) (fun _ _ => rfl)) (e_ix (e_v 1) (e_int) (fun _ _ => rfl))) (a_nil))))) (s_nil)
def Ok_over (P : Program) (w : World) (K : PySem.W.Frag) (mg : Str → Option Value) (base : Heap) : Prop := ∃ fd, FnG P w K mg base 4 (He.ga K "over") fd ["one", "other"] (spF K 2 fn_over) ∧ PySem.W.keepIn K (.ref (He.ga K "over")) = true ∧ Bd K fd ["one", "other"] 0 ["other", "one"] [1, 0] [] ∧ Bd K fd ["one", "other"] 2 [] [0, 1] []
theorem ok_over (c : Fx K mg) (h_part : Ok_part P w K mg base) : Ok_over P w K mg base := by
  obtain ⟨fd, F⟩ := c.d_over
  obtain ⟨fd_part, G_part, k_part, B_part_2_⟩ := h_part
  obtain ⟨fdi_NoPart, FI_NoPart⟩ := c.i_NoPart
  have I_NoPart := init_ok (P := P) (w := w) (mg := mg) (base := base) FI_NoPart sci_NoPart c.rs_NoPart.ox c.no_NoPart
  have J_NoPart : Binds K fdi_NoPart ["self", "n"] [] := FI_NoPart.bindsN fun _ _ _ _ _ _ us hl => match us, hl with | [_, _], _ => rfl
  refine ⟨fd, fn_ok (N := ["one", "other"]) F sc_over (b := b_over) (fun cdv A outer s H E hg hr => ?_), F.kp, bd0 F (fun _ _ _ _ _ _ us hl => match us, hl with | [_, _], _ => rfl), bd0 F (fun _ _ _ _ _ _ us hl => match us, hl with | [_, _], _ => rfl)⟩
  have tk := takes_of (X := cxOf (L2.CX P w) P w K mg base ["one", "other"] "over" (defScope st_over) (He.ga K "over") cdv A outer s H E) (E := E) rfl rfl rfl rfl
  have hp := passes_of (X := cxOf (L2.CX P w) P w K mg base ["one", "other"] "over" (defScope st_over) (He.ga K "over") cdv A outer s H E) rfl
  exact s_cons (s_if (t_cmp (o_eq hr.units) (nomark _) (e_ix (e_v 1) (e_int) (fun _ _ => rfl)) (e_int)) (s_cons (s_raise rfl tk c.rs_NoPart (hr.mono (by decide)) I_NoPart J_NoPart rfl c.g_NoPart (e_v 0)) (s_nil)) (s_nil)) (s_cons (s_ret (e_call G_part (hr.mono (by decide)) hg tk rfl c.g_part k_part B_part_2_ (fun ds h => match ds, h with | [_, _], _ => rfl) (a_cons (e_bin o_mul (e_ix (e_v 0) (e_int) (fun _ _ => rfl)) (e_ix (e_v 1) (e_int) (fun _ _ => rfl))) (a_cons (e_bin o_mul (e_ix (e_v 0) (e_int) (fun _ _ => rfl)) (e_ix (e_v 1) (e_int) (fun _ _ => rfl))) (a_nil))))) (s_nil))
def Ok_is_less (P : Program) (w : World) (K : PySem.W.Frag) (mg : Str → Option Value) (base : Heap) : Prop := ∃ fd, FnG P w K mg base 1 (He.ga K "is_less") fd ["one", "other"] (spF K 2 fn_is_less) ∧ PySem.W.keepIn K (.ref (He.ga K "is_less")) = true ∧ Bd K fd ["one", "other"] 2 [] [0, 1] [] ∧ Bd K fd ["one", "other"] 0 ["other", "one"] [1, 0] []
theorem ok_is_less (c : Fx K mg)  : Ok_is_less P w K mg base := by
  obtain ⟨fd, F⟩ := c.d_is_less
  refine ⟨fd, fn_ok (N := ["one", "other"]) F sc_is_less (b := b_is_less) (fun cdv A outer s H E hg hr => ?_), F.kp, bd0 F (fun _ _ _ _ _ _ us hl => match us, hl with | [_, _], _ => rfl), bd0 F (fun _ _ _ _ _ _ us hl => match us, hl with | [_, _], _ => rfl)⟩
  have tk := takes_of (X := cxOf (L2.CX P w) P w K mg base ["one", "other"] "is_less" (defScope st_is_less) (He.ga K "is_less") cdv A outer s H E) (E := E) rfl rfl rfl rfl
  have hp := passes_of (X := cxOf (L2.CX P w) P w K mg base ["one", "other"] "is_less" (defScope st_is_less) (He.ga K "is_less") cdv A outer s H E) rfl
  exact s_cons (s_ret (e_cmp o_lt (nomark _) (e_bin o_mul (e_ix (e_v 0) (e_int) (fun _ _ => rfl)) (e_ix (e_v 1) (e_int) (fun _ _ => rfl))) (e_bin o_mul (e_ix (e_v 1) (e_int) (fun _ _ => rfl)) (e_ix (e_v 0) (e_int) (fun _ _ => rfl))))) (s_nil)
def Ok_sum_of (P : Program) (w : World) (K : PySem.W.Frag) (mg : Str → Option Value) (base : Heap) : Prop := ∃ fd, FnG P w K mg base 5 (He.ga K "sum_of") fd ["some"] (spF K 1 fn_sum_of) ∧ PySem.W.keepIn K (.ref (He.ga K "sum_of")) = true ∧ Bd K fd ["some"] 0 ["some"] [0] [] ∧ Bd K fd ["some"] 1 [] [0] []
theorem ok_sum_of (c : Fx K mg) (h_plus : Ok_plus P w K mg base) : Ok_sum_of P w K mg base := by
  obtain ⟨fd, F⟩ := c.d_sum_of
  obtain ⟨fd_plus, G_plus, k_plus, B_plus_2_, B_plus_0_other_one⟩ := h_plus
  refine ⟨fd, fn_ok (N := ["some", "total", "one"]) F sc_sum_of (b := b_sum_of) (fun cdv A outer s H E hg hr => ?_), F.kp, bd0 F (fun _ _ _ _ _ _ us hl => match us, hl with | [_], _ => rfl), bd0 F (fun _ _ _ _ _ _ us hl => match us, hl with | [_], _ => rfl)⟩
  have tk := takes_of (X := cxOf (L2.CX P w) P w K mg base ["some", "total", "one"] "sum_of" (defScope st_sum_of) (He.ga K "sum_of") cdv A outer s H E) (E := E) rfl rfl rfl rfl
  have hp := passes_of (X := cxOf (L2.CX P w) P w K mg base ["some", "total", "one"] "sum_of" (defScope st_sum_of) (He.ga K "sum_of") cdv A outer s H E) rfl
  exact s_cons (s_set (i := 1) sc_sum_of.nd rfl (Or.inl rfl) (e_kon (vs := [.int 0, .int 1]) rfl c.g_NOUGHT c.k_NOUGHT (fun _ _ => .cons (.int _) (.cons (.int _) (.nil))))) (s_cons (s_for hp rfl (i_seq (e_v 0)) (pg_name (i := 2) sc_sum_of.nd rfl (Or.inl rfl)) (gp_nm 2) (s_cons (s_set (i := 1) sc_sum_of.nd rfl (Or.inl rfl) (e_call G_plus (hr.mono (by decide)) hg tk rfl c.g_plus k_plus B_plus_2_ (fun ds h => match ds, h with | [_, _], _ => rfl) (a_cons (e_v 1) (a_cons (e_v 2) (a_nil))))) (s_nil))) (s_cons (s_ret (e_v 1)) (s_nil)))
def Ok_least_of (P : Program) (w : World) (K : PySem.W.Frag) (mg : Str → Option Value) (base : Heap) : Prop := ∃ fd, FnG P w K mg base 2 (He.ga K "least_of") fd ["some"] (spF K 1 fn_least_of) ∧ PySem.W.keepIn K (.ref (He.ga K "least_of")) = true ∧ Bd K fd ["some"] 0 ["some"] [0] [] ∧ Bd K fd ["some"] 1 [] [0] []
theorem ok_least_of (c : Fx K mg) (h_is_less : Ok_is_less P w K mg base) : Ok_least_of P w K mg base := by
  obtain ⟨fd, F⟩ := c.d_least_of
  obtain ⟨fd_is_less, G_is_less, k_is_less, B_is_less_2_, B_is_less_0_other_one⟩ := h_is_less
  refine ⟨fd, fn_ok (N := ["some", "least", "one"]) F sc_least_of (b := b_least_of) (fun cdv A outer s H E hg hr => ?_), F.kp, bd0 F (fun _ _ _ _ _ _ us hl => match us, hl with | [_], _ => rfl), bd0 F (fun _ _ _ _ _ _ us hl => match us, hl with | [_], _ => rfl)⟩
  have tk := takes_of (X := cxOf (L2.CX P w) P w K mg base ["some", "least", "one"] "least_of" (defScope st_least_of) (He.ga K "least_of") cdv A outer s H E) (E := E) rfl rfl rfl rfl
  have hp := passes_of (X := cxOf (L2.CX P w) P w K mg base ["some", "least", "one"] "least_of" (defScope st_least_of) (He.ga K "least_of") cdv A outer s H E) rfl
  exact s_cons (s_set (i := 1) sc_least_of.nd rfl (Or.inl rfl) (e_ix (e_v 0) (e_int) (fun _ _ => rfl))) (s_cons (s_for hp rfl (i_seq (e_v 0)) (pg_name (i := 2) sc_least_of.nd rfl (Or.inl rfl)) (gp_nm 2) (s_cons (s_if (t_of (e_call G_is_less (hr.mono (by decide)) hg tk rfl c.g_is_less k_is_less B_is_less_2_ (fun ds h => match ds, h with | [_, _], _ => rfl) (a_cons (e_v 2) (a_cons (e_v 1) (a_nil))))) (s_cons (s_set (i := 1) sc_least_of.nd rfl (Or.inl rfl) (e_v 2)) (s_nil)) (s_nil)) (s_nil))) (s_cons (s_ret (e_v 1)) (s_nil)))
def Ok_greatest_of (P : Program) (w : World) (K : PySem.W.Frag) (mg : Str → Option Value) (base : Heap) : Prop := ∃ fd, FnG P w K mg base 2 (He.ga K "greatest_of") fd ["some"] (spF K 1 fn_greatest_of) ∧ PySem.W.keepIn K (.ref (He.ga K "greatest_of")) = true ∧ Bd K fd ["some"] 1 [] [0] [] ∧ Bd K fd ["some"] 0 ["some"] [0] []
theorem ok_greatest_of (c : Fx K mg) (h_is_less : Ok_is_less P w K mg base) : Ok_greatest_of P w K mg base := by
  obtain ⟨fd, F⟩ := c.d_greatest_of
  obtain ⟨fd_is_less, G_is_less, k_is_less, B_is_less_2_, B_is_less_0_other_one⟩ := h_is_less
  refine ⟨fd, fn_ok (N := ["some", "greatest", "one"]) F sc_greatest_of (b := b_greatest_of) (fun cdv A outer s H E hg hr => ?_), F.kp, bd0 F (fun _ _ _ _ _ _ us hl => match us, hl with | [_], _ => rfl), bd0 F (fun _ _ _ _ _ _ us hl => match us, hl with | [_], _ => rfl)⟩
  have tk := takes_of (X := cxOf (L2.CX P w) P w K mg base ["some", "greatest", "one"] "greatest_of" (defScope st_greatest_of) (He.ga K "greatest_of") cdv A outer s H E) (E := E) rfl rfl rfl rfl
  have hp := passes_of (X := cxOf (L2.CX P w) P w K mg base ["some", "greatest", "one"] "greatest_of" (defScope st_greatest_of) (He.ga K "greatest_of") cdv A outer s H E) rfl
  exact s_cons (s_set (i := 1) sc_greatest_of.nd rfl (Or.inl rfl) (e_ix (e_v 0) (e_int) (fun _ _ => rfl))) (s_cons (s_for hp rfl (i_seq (e_v 0)) (pg_name (i := 2) sc_greatest_of.nd rfl (Or.inl rfl)) (gp_nm 2) (s_cons (s_if (t_of (e_call G_is_less (hr.mono (by decide)) hg tk rfl c.g_is_less k_is_less B_is_less_2_ (fun ds h => match ds, h with | [_, _], _ => rfl) (a_cons (e_v 1) (a_cons (e_v 2) (a_nil))))) (s_cons (s_set (i := 1) sc_greatest_of.nd rfl (Or.inl rfl) (e_v 2)) (s_nil)) (s_nil)) (s_nil))) (s_cons (s_ret (e_v 1)) (s_nil)))
def Ok__law_pot (P : Program) (w : World) (K : PySem.W.Frag) (mg : Str → Option Value) (base : Heap) : Prop := ∃ fd, FnG P w K mg base 1 (He.ga K "_law_pot") fd ["_law_script", "_law_k"] (spF K 2 fn__law_pot) ∧ PySem.W.keepIn K (.ref (He.ga K "_law_pot")) = true ∧ Bd K fd ["_law_script", "_law_k"] 2 [] [0, 1] []
theorem ok__law_pot (c : Fx K mg)  : Ok__law_pot P w K mg base := by
  obtain ⟨fd, F⟩ := c.d__law_pot
  refine ⟨fd, fn_ok (N := ["_law_script", "_law_k", "_law_cell", "_law_great"]) F sc__law_pot (b := b__law_pot) (fun cdv A outer s H E hg hr => ?_), F.kp, bd0 F (fun _ _ _ _ _ _ us hl => match us, hl with | [_, _], _ => rfl)⟩
  have tk := takes_of (X := cxOf (L2.CX P w) P w K mg base ["_law_script", "_law_k", "_law_cell", "_law_great"] "_law_pot" (defScope st__law_pot) (He.ga K "_law_pot") cdv A outer s H E) (E := E) rfl rfl rfl rfl
  have hp := passes_of (X := cxOf (L2.CX P w) P w K mg base ["_law_script", "_law_k", "_law_cell", "_law_great"] "_law_pot" (defScope st__law_pot) (He.ga K "_law_pot") cdv A outer s H E) rfl
  exact s_cons (s_set (i := 2) sc__law_pot.nd rfl (Or.inl rfl) (e_bin o_add (e_bin o_mul (e_int) (e_v 1)) (e_callB (id := "len") c_len rfl c.n_len (by decide +kernel) (a_cons (e_v 0) (a_nil))))) (s_cons (s_if (t_cmp o_lt (nomark _) (e_v 1) (e_callB (id := "len") c_len rfl c.n_len (by decide +kernel) (a_cons (e_v 0) (a_nil)))) (s_cons (s_set (i := 2) sc__law_pot.nd rfl (Or.inl rfl) (e_ix (e_v 0) (e_v 1) (fun _ _ => rfl))) (s_nil)) (s_nil)) (s_cons (s_set (i := 3) sc__law_pot.nd rfl (Or.inl rfl) (e_bin o_mul (e_bin o_mod (e_callB (id := "abs") c_abs rfl c.n_abs (by decide +kernel) (a_cons (e_v 2) (a_nil))) (e_callT (T := "int") c_int rfl c.n_int (by decide +kernel) (a_cons (e_bin o_add (e_str) (e_bin o_mul (e_str) (e_int))) (a_nil)))) (e_callT (T := "int") c_int rfl c.n_int (by decide +kernel) (a_cons (e_cmp o_ge (nomark _) (e_callB (id := "abs") c_abs rfl c.n_abs (by decide +kernel) (a_cons (e_v 2) (a_nil))) (e_bin o_pow (e_int) (e_int))) (a_nil))))) (s_cons (s_ret (e_lst (a_cons (e_v 3) (a_cons (e_bin o_mod (e_bin o_mul (e_bin o_add (e_bin o_add (e_bin o_mod (e_v 2) (e_int)) (e_bin o_mul (e_bin o_mul (e_int) (e_v 1)) (e_v 1))) (e_int)) (e_int)) (e_int)) (a_nil))))) (s_nil))))
def Ok__law_take (P : Program) (w : World) (K : PySem.W.Frag) (mg : Str → Option Value) (base : Heap) : Prop := ∃ fd, FnG P w K mg base 1 (He.ga K "_law_take") fd ["_law_pot_here", "_law_upto"] (spF K 2 fn__law_take) ∧ PySem.W.keepIn K (.ref (He.ga K "_law_take")) = true ∧ Bd K fd ["_law_pot_here", "_law_upto"] 2 [] [0, 1] []
theorem ok__law_take (c : Fx K mg)  : Ok__law_take P w K mg base := by
  obtain ⟨fd, F⟩ := c.d__law_take
  refine ⟨fd, fn_ok (N := ["_law_pot_here", "_law_upto", "_law_digit"]) F sc__law_take (b := b__law_take) (fun cdv A outer s H E hg hr => ?_), F.kp, bd0 F (fun _ _ _ _ _ _ us hl => match us, hl with | [_, _], _ => rfl)⟩
  have tk := takes_of (X := cxOf (L2.CX P w) P w K mg base ["_law_pot_here", "_law_upto", "_law_digit"] "_law_take" (defScope st__law_take) (He.ga K "_law_take") cdv A outer s H E) (E := E) rfl rfl rfl rfl
  have hp := passes_of (X := cxOf (L2.CX P w) P w K mg base ["_law_pot_here", "_law_upto", "_law_digit"] "_law_take" (defScope st__law_take) (He.ga K "_law_take") cdv A outer s H E) rfl
  exact s_cons (s_if (t_cmp o_gt (nomark _) (e_ix (e_v 0) (e_int) (fun _ _ => rfl)) (e_int)) (s_cons (s_set (i := 2) sc__law_take.nd rfl (Or.inl rfl) (e_bin o_mod (e_ix (e_v 0) (e_int) (fun _ _ => rfl)) (e_v 1))) (s_cons (s_sub (e_bin o_div (e_ix (e_v 0) (e_int) (fun _ _ => rfl)) (e_v 1)) (e_v 0) (e_int) (pg_sub (e_v 0) (e_int) set_list)) (s_cons (s_ret (e_v 2)) (s_nil)))) (s_nil)) (s_cons (s_sub (e_bin o_mod (e_bin o_add (e_bin o_mul (e_ix (e_v 0) (e_int) (fun _ _ => rfl)) (e_int)) (e_int)) (e_int)) (e_v 0) (e_int) (pg_sub (e_v 0) (e_int) set_list)) (s_cons (s_ret (e_bin o_mod (e_bin o_div (e_bin o_mod (e_bin o_mul (e_bin o_div (e_ix (e_v 0) (e_int) (fun _ _ => rfl)) (e_int)) (e_bin o_add (e_bin o_mod (e_ix (e_v 0) (e_int) (fun _ _ => rfl)) (e_int)) (e_int))) (e_int)) (e_int)) (e_v 1))) (s_nil)))
def Ok__law_of (P : Program) (w : World) (K : PySem.W.Frag) (mg : Str → Option Value) (base : Heap) : Prop := ∃ fd, FnG P w K mg base 2 (He.ga K "_law_of") fd ["_law_pot_here", "_law_lot"] (spF K 2 fn__law_of) ∧ PySem.W.keepIn K (.ref (He.ga K "_law_of")) = true ∧ Bd K fd ["_law_pot_here", "_law_lot"] 2 [] [0, 1] []
theorem ok__law_of (c : Fx K mg) (h__law_take : Ok__law_take P w K mg base) : Ok__law_of P w K mg base := by
  obtain ⟨fd, F⟩ := c.d__law_of
  obtain ⟨fd__law_take, G__law_take, k__law_take, B__law_take_2_⟩ := h__law_take
  refine ⟨fd, fn_ok (N := ["_law_pot_here", "_law_lot"]) F sc__law_of (b := b__law_of) (fun cdv A outer s H E hg hr => ?_), F.kp, bd0 F (fun _ _ _ _ _ _ us hl => match us, hl with | [_, _], _ => rfl)⟩
  have tk := takes_of (X := cxOf (L2.CX P w) P w K mg base ["_law_pot_here", "_law_lot"] "_law_of" (defScope st__law_of) (He.ga K "_law_of") cdv A outer s H E) (E := E) rfl rfl rfl rfl
  have hp := passes_of (X := cxOf (L2.CX P w) P w K mg base ["_law_pot_here", "_law_lot"] "_law_of" (defScope st__law_of) (He.ga K "_law_of") cdv A outer s H E) rfl
  exact s_cons (s_ret (e_ix (e_v 1) (e_call G__law_take (hr.mono (by decide)) hg tk rfl c.g__law_take k__law_take B__law_take_2_ (fun ds h => match ds, h with | [_, _], _ => rfl) (a_cons (e_v 0) (a_cons (e_callB (id := "len") c_len rfl c.n_len (by decide +kernel) (a_cons (e_v 1) (a_nil))) (a_nil)))) (fun _ _ => rfl))) (s_nil)
def Ok__law_reduced (P : Program) (w : World) (K : PySem.W.Frag) (mg : Str → Option Value) (base : Heap) : Prop := ∃ fd, FnG P w K mg base 1 (He.ga K "_law_reduced") fd ["_law_top", "_law_low"] (spF K 2 fn__law_reduced) ∧ PySem.W.keepIn K (.ref (He.ga K "_law_reduced")) = true ∧ Bd K fd ["_law_top", "_law_low"] 2 [] [0, 1] []
theorem ok__law_reduced (c : Fx K mg)  : Ok__law_reduced P w K mg base := by
  obtain ⟨fd, F⟩ := c.d__law_reduced
  refine ⟨fd, fn_ok (N := ["_law_top", "_law_low", "_law_upper", "_law_two", "_law_sign"]) F sc__law_reduced (b := b__law_reduced) (fun cdv A outer s H E hg hr => ?_), F.kp, bd0 F (fun _ _ _ _ _ _ us hl => match us, hl with | [_, _], _ => rfl)⟩
  have tk := takes_of (X := cxOf (L2.CX P w) P w K mg base ["_law_top", "_law_low", "_law_upper", "_law_two", "_law_sign"] "_law_reduced" (defScope st__law_reduced) (He.ga K "_law_reduced") cdv A outer s H E) (E := E) rfl rfl rfl rfl
  have hp := passes_of (X := cxOf (L2.CX P w) P w K mg base ["_law_top", "_law_low", "_law_upper", "_law_two", "_law_sign"] "_law_reduced" (defScope st__law_reduced) (He.ga K "_law_reduced") cdv A outer s H E) rfl
  exact s_cons (s_par (i := 2) (j := 3) rfl sc__law_reduced.nd rfl rfl (by decide) rfl rfl (a_cons (e_callB (id := "abs") c_abs rfl c.n_abs (by decide +kernel) (a_cons (e_v 0) (a_nil))) (a_cons (e_callB (id := "abs") c_abs rfl c.n_abs (by decide +kernel) (a_cons (e_v 1) (a_nil))) (a_nil))) rfl) (s_cons (s_while hp (t_cmp o_gt (nomark _) (e_v 3) (e_int)) (s_cons (s_par (i := 2) (j := 3) rfl sc__law_reduced.nd rfl rfl (by decide) rfl rfl (a_cons (e_v 3) (a_cons (e_bin o_mod (e_v 2) (e_v 3)) (a_nil))) rfl) (s_nil))) (s_cons (s_set (i := 4) sc__law_reduced.nd rfl (Or.inl rfl) (e_if (t_cmp o_gt (nomark _) (e_v 1) (e_int)) (e_int) (e_un o_neg (e_int)))) (s_cons (s_ret (e_tup (a_cons (e_bin o_div (e_bin o_mul (e_v 4) (e_v 0)) (e_v 2)) (a_cons (e_bin o_div (e_bin o_mul (e_v 4) (e_v 1)) (e_v 2)) (a_nil))))) (s_nil))))
def Ok__law_drawn (P : Program) (w : World) (K : PySem.W.Frag) (mg : Str → Option Value) (base : Heap) : Prop := ∃ fd, FnG P w K mg base 3 (He.ga K "_law_drawn") fd ["_law_pot_here"] (spF K 1 fn__law_drawn) ∧ PySem.W.keepIn K (.ref (He.ga K "_law_drawn")) = true ∧ Bd K fd ["_law_pot_here"] 1 [] [0] []
theorem ok__law_drawn (c : Fx K mg) (h__law_reduced : Ok__law_reduced P w K mg base) (h__law_take : Ok__law_take P w K mg base) (h__law_of : Ok__law_of P w K mg base) : Ok__law_drawn P w K mg base := by
  obtain ⟨fd, F⟩ := c.d__law_drawn
  obtain ⟨fd__law_reduced, G__law_reduced, k__law_reduced, B__law_reduced_2_⟩ := h__law_reduced
  obtain ⟨fd__law_take, G__law_take, k__law_take, B__law_take_2_⟩ := h__law_take
  obtain ⟨fd__law_of, G__law_of, k__law_of, B__law_of_2_⟩ := h__law_of
  refine ⟨fd, fn_ok (N := ["_law_pot_here", "_law_top", "_law_low"]) F sc__law_drawn (b := b__law_drawn) (fun cdv A outer s H E hg hr => ?_), F.kp, bd0 F (fun _ _ _ _ _ _ us hl => match us, hl with | [_], _ => rfl)⟩
  have tk := takes_of (X := cxOf (L2.CX P w) P w K mg base ["_law_pot_here", "_law_top", "_law_low"] "_law_drawn" (defScope st__law_drawn) (He.ga K "_law_drawn") cdv A outer s H E) (E := E) rfl rfl rfl rfl
  have hp := passes_of (X := cxOf (L2.CX P w) P w K mg base ["_law_pot_here", "_law_top", "_law_low"] "_law_drawn" (defScope st__law_drawn) (He.ga K "_law_drawn") cdv A outer s H E) rfl
  exact s_cons (s_set (i := 1) sc__law_drawn.nd rfl (Or.inl rfl) (e_call G__law_of (hr.mono (by decide)) hg tk rfl c.g__law_of k__law_of B__law_of_2_ (fun ds h => match ds, h with | [_, _], _ => rfl) (a_cons (e_v 0) (a_cons (e_lst (a_cons (e_int) (a_cons (e_int) (a_cons (e_int) (a_cons (e_int) (a_cons (e_int) (a_cons (e_int) (a_cons (e_call G__law_take (hr.mono (by decide)) hg tk rfl c.g__law_take k__law_take B__law_take_2_ (fun ds h => match ds, h with | [_, _], _ => rfl) (a_cons (e_v 0) (a_cons (e_int) (a_nil)))) (a_cons (e_call G__law_take (hr.mono (by decide)) hg tk rfl c.g__law_take k__law_take B__law_take_2_ (fun ds h => match ds, h with | [_, _], _ => rfl) (a_cons (e_v 0) (a_cons (e_bin o_pow (e_int) (e_int)) (a_nil)))) (a_nil)))))))))) (a_nil))))) (s_cons (s_set (i := 2) sc__law_drawn.nd rfl (Or.inl rfl) (e_call G__law_of (hr.mono (by decide)) hg tk rfl c.g__law_of k__law_of B__law_of_2_ (fun ds h => match ds, h with | [_, _], _ => rfl) (a_cons (e_v 0) (a_cons (e_lst (a_cons (e_int) (a_cons (e_int) (a_cons (e_int) (a_cons (e_int) (a_cons (e_int) (a_cons (e_int) (a_cons (e_bin o_add (e_int) (e_call G__law_take (hr.mono (by decide)) hg tk rfl c.g__law_take k__law_take B__law_take_2_ (fun ds h => match ds, h with | [_, _], _ => rfl) (a_cons (e_v 0) (a_cons (e_int) (a_nil))))) (a_cons (e_bin o_add (e_int) (e_call G__law_take (hr.mono (by decide)) hg tk rfl c.g__law_take k__law_take B__law_take_2_ (fun ds h => match ds, h with | [_, _], _ => rfl) (a_cons (e_v 0) (a_cons (e_bin o_pow (e_int) (e_int)) (a_nil))))) (a_nil)))))))))) (a_nil))))) (s_cons (s_ret (e_call G__law_reduced (hr.mono (by decide)) hg tk rfl c.g__law_reduced k__law_reduced B__law_reduced_2_ (fun ds h => match ds, h with | [_, _], _ => rfl) (a_cons (e_if (t_cmp o_gt (nomark _) (e_call G__law_take (hr.mono (by decide)) hg tk rfl c.g__law_take k__law_take B__law_take_2_ (fun ds h => match ds, h with | [_, _], _ => rfl) (a_cons (e_v 0) (a_cons (e_int) (a_nil)))) (e_int)) (e_v 1) (e_bin o_sub (e_int) (e_v 1))) (a_cons (e_v 2) (a_nil))))) (s_nil)))
def Ok__law_over_right (P : Program) (w : World) (K : PySem.W.Frag) (mg : Str → Option Value) (base : Heap) : Prop := ∃ fd, FnG P w K mg base 5 (He.ga K "_law_over_right") fd ["_law_first", "_law_second"] (spF K 2 fn__law_over_right) ∧ PySem.W.keepIn K (.ref (He.ga K "_law_over_right")) = true ∧ Bd K fd ["_law_first", "_law_second"] 2 [] [0, 1] []
theorem ok__law_over_right (c : Fx K mg) (h_over : Ok_over P w K mg base) (h__law_reduced : Ok__law_reduced P w K mg base) : Ok__law_over_right P w K mg base := by
  obtain ⟨fd, F⟩ := c.d__law_over_right
  obtain ⟨fd_over, G_over, k_over, B_over_0_other_one, B_over_2_⟩ := h_over
  obtain ⟨fd__law_reduced, G__law_reduced, k__law_reduced, B__law_reduced_2_⟩ := h__law_reduced
  refine ⟨fd, fn_ok (N := ["_law_first", "_law_second", "_law_caught", "_law_found", "_law_due", "error"]) F sc__law_over_right (b := b__law_over_right) (fun cdv A outer s H E hg hr => ?_), F.kp, bd0 F (fun _ _ _ _ _ _ us hl => match us, hl with | [_, _], _ => rfl)⟩
  have tk := takes_of (X := cxOf (L2.CX P w) P w K mg base ["_law_first", "_law_second", "_law_caught", "_law_found", "_law_due", "error"] "_law_over_right" (defScope st__law_over_right) (He.ga K "_law_over_right") cdv A outer s H E) (E := E) rfl rfl rfl rfl
  have hp := passes_of (X := cxOf (L2.CX P w) P w K mg base ["_law_first", "_law_second", "_law_caught", "_law_found", "_law_due", "error"] "_law_over_right" (defScope st__law_over_right) (He.ga K "_law_over_right") cdv A outer s H E) rfl
  exact s_cons (s_put (e_tup (a_cons (e_non) (a_cons (e_non) (a_nil)))) (pg_tup rfl (pgs_cons (pg_name (i := 2) sc__law_over_right.nd rfl (Or.inl rfl)) (pgs_cons (pg_name (i := 3) sc__law_over_right.nd rfl (Or.inl rfl)) (pgs_nil)))) (gp_tp rfl (gps_cons (gp_nm 2) (gps_cons (gp_nm 3) (gps_nil))))) (s_cons (s_try (i := 5) rfl rfl rfl sc__law_over_right.nd rfl rfl tk (caught1 c.ct__law_over_right_0 (nm_own rfl c.g_LateError)) (fun W0 _ _ tk0 hp0 => s_cons (s_set (i := 3) sc__law_over_right.nd rfl (Or.inl rfl) (e_call G_over (hr.mono (by decide)) hg tk0 rfl c.g_over k_over B_over_2_ (fun ds h => match ds, h with | [_, _], _ => rfl) (a_cons (e_v 0) (a_cons (e_v 1) (a_nil))))) (s_nil)) (fun _ _ => s_cons (s_set (i := 2) sc__law_over_right.nd rfl (Or.inl rfl) (e_v 5)) (s_nil))) (s_cons (s_if (t_cmp (o_eq hr.units) (nomark _) (e_ix (e_v 1) (e_int) (fun _ _ => rfl)) (e_int)) (s_cons (s_ret (e_and (e_isi (k := .own "NoPart") c.cls rfl c.n_isinstance (e_v 2) (pe_glob (v := .ref (He.ga K "NoPart")) rfl c.g_NoPart rfl) ck_own) (e_one (e_cmp (o_eq hr.units) (nomark _) (e_callB (id := "repr") (c_repr hg hr.units) rfl c.n_repr (by decide +kernel) (a_cons (e_xf (c.fld_n) (e_v 2)) (a_nil))) (e_callB (id := "repr") (c_repr hg hr.units) rfl c.n_repr (by decide +kernel) (a_cons (e_v 0) (a_nil))))))) (s_nil)) (s_nil)) (s_cons (s_set (i := 4) sc__law_over_right.nd rfl (Or.inl rfl) (e_call G__law_reduced (hr.mono (by decide)) hg tk rfl c.g__law_reduced k__law_reduced B__law_reduced_2_ (fun ds h => match ds, h with | [_, _], _ => rfl) (a_cons (e_bin o_mul (e_ix (e_v 0) (e_int) (fun _ _ => rfl)) (e_ix (e_v 1) (e_int) (fun _ _ => rfl))) (a_cons (e_bin o_mul (e_ix (e_v 0) (e_int) (fun _ _ => rfl)) (e_ix (e_v 1) (e_int) (fun _ _ => rfl))) (a_nil))))) (s_cons (s_ret (e_and (e_cmp o_is (nomark _) (e_v 2) (e_non)) (e_one (e_cmp (o_eq hr.units) (nomark _) (e_callB (id := "repr") (c_repr hg hr.units) rfl c.n_repr (by decide +kernel) (a_cons (e_lst (a_cons (e_v 3) (a_cons (e_callK0 (ks := ["other", "one"]) G_over (hr.mono (by decide)) hg tk rfl c.g_over k_over B_over_0_other_one (fun ds h => match ds, h with | [_, _], _ => rfl) (k_cons (e_v 1) (k_cons (e_v 0) (k_nil)))) (a_nil)))) (a_nil))) (e_callB (id := "repr") (c_repr hg hr.units) rfl c.n_repr (by decide +kernel) (a_cons (e_bin o_mul (e_lst (a_cons (e_v 4) (a_nil))) (e_int)) (a_nil))))))) (s_nil)))))
def Ok__law_two_right (P : Program) (w : World) (K : PySem.W.Frag) (mg : Str → Option Value) (base : Heap) : Prop := ∃ fd, FnG P w K mg base 6 (He.ga K "_law_two_right") fd ["_law_first", "_law_second"] (spF K 2 fn__law_two_right) ∧ PySem.W.keepIn K (.ref (He.ga K "_law_two_right")) = true ∧ Bd K fd ["_law_first", "_law_second"] 2 [] [0, 1] []
theorem ok__law_two_right (c : Fx K mg) (h_minus : Ok_minus P w K mg base) (h_plus : Ok_plus P w K mg base) (h_over : Ok_over P w K mg base) (h_times : Ok_times P w K mg base) (h__law_over_right : Ok__law_over_right P w K mg base) (h_is_less : Ok_is_less P w K mg base) (h_is_fraction : Ok_is_fraction P w K mg base) (h__law_reduced : Ok__law_reduced P w K mg base) : Ok__law_two_right P w K mg base := by
  obtain ⟨fd, F⟩ := c.d__law_two_right
  obtain ⟨fd_minus, G_minus, k_minus, B_minus_2_, B_minus_0_other_one⟩ := h_minus
  obtain ⟨fd_plus, G_plus, k_plus, B_plus_2_, B_plus_0_other_one⟩ := h_plus
  obtain ⟨fd_over, G_over, k_over, B_over_0_other_one, B_over_2_⟩ := h_over
  obtain ⟨fd_times, G_times, k_times, B_times_2_, B_times_0_other_one⟩ := h_times
  obtain ⟨fd__law_over_right, G__law_over_right, k__law_over_right, B__law_over_right_2_⟩ := h__law_over_right
  obtain ⟨fd_is_less, G_is_less, k_is_less, B_is_less_2_, B_is_less_0_other_one⟩ := h_is_less
  obtain ⟨fd_is_fraction, G_is_fraction, k_is_fraction, B_is_fraction_1_⟩ := h_is_fraction
  obtain ⟨fd__law_reduced, G__law_reduced, k__law_reduced, B__law_reduced_2_⟩ := h__law_reduced
  refine ⟨fd, fn_ok (N := ["_law_first", "_law_second", "_law_a", "_law_b", "_law_c", "_law_d", "_law_due", "_law_told", "_law_named", "_law_less", "_law_one_told"]) F sc__law_two_right (b := b__law_two_right) (fun cdv A outer s H E hg hr => ?_), F.kp, bd0 F (fun _ _ _ _ _ _ us hl => match us, hl with | [_, _], _ => rfl)⟩
  have tk := takes_of (X := cxOf (L2.CX P w) P w K mg base ["_law_first", "_law_second", "_law_a", "_law_b", "_law_c", "_law_d", "_law_due", "_law_told", "_law_named", "_law_less", "_law_one_told"] "_law_two_right" (defScope st__law_two_right) (He.ga K "_law_two_right") cdv A outer s H E) (E := E) rfl rfl rfl rfl
  have hp := passes_of (X := cxOf (L2.CX P w) P w K mg base ["_law_first", "_law_second", "_law_a", "_law_b", "_law_c", "_law_d", "_law_due", "_law_told", "_law_named", "_law_less", "_law_one_told"] "_law_two_right" (defScope st__law_two_right) (He.ga K "_law_two_right") cdv A outer s H E) rfl
  exact s_cons (s_put (e_tup (a_cons (e_v 0) (a_cons (e_v 1) (a_nil)))) (pg_tup rfl (pgs_cons (pg_tup rfl (pgs_cons (pg_name (i := 2) sc__law_two_right.nd rfl (Or.inl rfl)) (pgs_cons (pg_name (i := 3) sc__law_two_right.nd rfl (Or.inl rfl)) (pgs_nil)))) (pgs_cons (pg_tup rfl (pgs_cons (pg_name (i := 4) sc__law_two_right.nd rfl (Or.inl rfl)) (pgs_cons (pg_name (i := 5) sc__law_two_right.nd rfl (Or.inl rfl)) (pgs_nil)))) (pgs_nil)))) (gp_tp rfl (gps_cons (gp_tp rfl (gps_cons (gp_nm 2) (gps_cons (gp_nm 3) (gps_nil)))) (gps_cons (gp_tp rfl (gps_cons (gp_nm 4) (gps_cons (gp_nm 5) (gps_nil)))) (gps_nil))))) (s_cons (s_set (i := 6) sc__law_two_right.nd rfl (Or.inl rfl) (e_lst (a_cons (e_call G__law_reduced (hr.mono (by decide)) hg tk rfl c.g__law_reduced k__law_reduced B__law_reduced_2_ (fun ds h => match ds, h with | [_, _], _ => rfl) (a_cons (e_bin o_add (e_bin o_mul (e_v 2) (e_v 5)) (e_bin o_mul (e_v 4) (e_v 3))) (a_cons (e_bin o_mul (e_v 3) (e_v 5)) (a_nil)))) (a_cons (e_call G__law_reduced (hr.mono (by decide)) hg tk rfl c.g__law_reduced k__law_reduced B__law_reduced_2_ (fun ds h => match ds, h with | [_, _], _ => rfl) (a_cons (e_bin o_sub (e_bin o_mul (e_v 2) (e_v 5)) (e_bin o_mul (e_v 4) (e_v 3))) (a_cons (e_bin o_mul (e_v 3) (e_v 5)) (a_nil)))) (a_cons (e_call G__law_reduced (hr.mono (by decide)) hg tk rfl c.g__law_reduced k__law_reduced B__law_reduced_2_ (fun ds h => match ds, h with | [_, _], _ => rfl) (a_cons (e_bin o_mul (e_v 2) (e_v 4)) (a_cons (e_bin o_mul (e_v 3) (e_v 5)) (a_nil)))) (a_nil)))))) (s_cons (s_set (i := 7) sc__law_two_right.nd rfl (Or.inl rfl) (e_lst (a_cons (e_call G_plus (hr.mono (by decide)) hg tk rfl c.g_plus k_plus B_plus_2_ (fun ds h => match ds, h with | [_, _], _ => rfl) (a_cons (e_v 0) (a_cons (e_v 1) (a_nil)))) (a_cons (e_call G_minus (hr.mono (by decide)) hg tk rfl c.g_minus k_minus B_minus_2_ (fun ds h => match ds, h with | [_, _], _ => rfl) (a_cons (e_v 0) (a_cons (e_v 1) (a_nil)))) (a_cons (e_call G_times (hr.mono (by decide)) hg tk rfl c.g_times k_times B_times_2_ (fun ds h => match ds, h with | [_, _], _ => rfl) (a_cons (e_v 0) (a_cons (e_v 1) (a_nil)))) (a_nil)))))) (s_cons (s_set (i := 8) sc__law_two_right.nd rfl (Or.inl rfl) (e_lst (a_cons (e_callK0 (ks := ["other", "one"]) G_plus (hr.mono (by decide)) hg tk rfl c.g_plus k_plus B_plus_0_other_one (fun ds h => match ds, h with | [_, _], _ => rfl) (k_cons (e_v 1) (k_cons (e_v 0) (k_nil)))) (a_cons (e_callK0 (ks := ["other", "one"]) G_minus (hr.mono (by decide)) hg tk rfl c.g_minus k_minus B_minus_0_other_one (fun ds h => match ds, h with | [_, _], _ => rfl) (k_cons (e_v 1) (k_cons (e_v 0) (k_nil)))) (a_cons (e_callK0 (ks := ["other", "one"]) G_times (hr.mono (by decide)) hg tk rfl c.g_times k_times B_times_0_other_one (fun ds h => match ds, h with | [_, _], _ => rfl) (k_cons (e_v 1) (k_cons (e_v 0) (k_nil)))) (a_nil)))))) (s_cons (s_if (PW.pt (w_or (t_cmp (o_ne hr.units) (nomark _) (e_callB (id := "repr") (c_repr hg hr.units) rfl c.n_repr (by decide +kernel) (a_cons (e_v 7) (a_nil))) (e_callB (id := "repr") (c_repr hg hr.units) rfl c.n_repr (by decide +kernel) (a_cons (e_v 6) (a_nil)))) (w_or (t_cmp (o_ne hr.units) (nomark _) (e_callB (id := "repr") (c_repr hg hr.units) rfl c.n_repr (by decide +kernel) (a_cons (e_v 8) (a_nil))) (e_callB (id := "repr") (c_repr hg hr.units) rfl c.n_repr (by decide +kernel) (a_cons (e_v 6) (a_nil)))) (w_or1 (t_not (t_of (e_callB (id := "all") (c_all rfl) rfl c.n_all (by decide +kernel) (a_cons (e_lc (own := [("_law_one_told", 10)]) rfl sc__law_two_right.nd (i_seq (e_v 7)) (blk_by ["_law_first", "_law_second", "_law_a", "_law_b", "_law_c", "_law_d", "_law_due", "_law_told", "_law_named", "_law_less", "_law_one_told"] (defScope st__law_two_right) (by decide +kernel)) (fun _ _ _ _ _ => pg_name (i := 10) sc__law_two_right.nd rfl (Or.inl rfl)) (gp_nm 10) (by decide) (fun _ _ _ _ _ => pts_nil) tt_no (fun _ _ _ _ _ => e_call G_is_fraction (hr.mono (by decide)) hg tk_no rfl c.g_is_fraction k_is_fraction B_is_fraction_1_ (fun ds h => match ds, h with | [_], _ => rfl) (a_cons (e_v 10) (a_nil)))) (a_nil))))))))) (s_cons (s_ret (e_bl)) (s_nil)) (s_nil)) (s_cons (s_set (i := 9) sc__law_two_right.nd rfl (Or.inl rfl) (e_lst (a_cons (e_call G_is_less (hr.mono (by decide)) hg tk rfl c.g_is_less k_is_less B_is_less_2_ (fun ds h => match ds, h with | [_, _], _ => rfl) (a_cons (e_v 0) (a_cons (e_v 1) (a_nil)))) (a_cons (e_callK0 (ks := ["other", "one"]) G_is_less (hr.mono (by decide)) hg tk rfl c.g_is_less k_is_less B_is_less_0_other_one (fun ds h => match ds, h with | [_, _], _ => rfl) (k_cons (e_v 1) (k_cons (e_v 0) (k_nil)))) (a_nil))))) (s_cons (s_if (PW.pt (w_or (t_cmp (o_ne hr.units) (nomark _) (e_callB (id := "repr") (c_repr hg hr.units) rfl c.n_repr (by decide +kernel) (a_cons (e_v 9) (a_nil))) (e_callB (id := "repr") (c_repr hg hr.units) rfl c.n_repr (by decide +kernel) (a_cons (e_bin o_mul (e_lst (a_cons (e_cmp o_lt (nomark _) (e_bin o_mul (e_v 2) (e_v 5)) (e_bin o_mul (e_v 4) (e_v 3))) (a_nil))) (e_int)) (a_nil)))) (w_or1 (t_not (t_of (e_call G__law_over_right (hr.mono (by decide)) hg tk rfl c.g__law_over_right k__law_over_right B__law_over_right_2_ (fun ds h => match ds, h with | [_, _], _ => rfl) (a_cons (e_v 0) (a_cons (e_v 1) (a_nil))))))))) (s_cons (s_ret (e_bl)) (s_nil)) (s_nil)) (s_cons (s_ret (e_and (e_cmp (o_eq hr.units) (nomark _) (e_call G_minus (hr.mono (by decide)) hg tk rfl c.g_minus k_minus B_minus_2_ (fun ds h => match ds, h with | [_, _], _ => rfl) (a_cons (e_call G_plus (hr.mono (by decide)) hg tk rfl c.g_plus k_plus B_plus_2_ (fun ds h => match ds, h with | [_, _], _ => rfl) (a_cons (e_v 0) (a_cons (e_v 1) (a_nil)))) (a_cons (e_v 1) (a_nil)))) (e_v 0)) (e_one (e_or (e_cmp (o_eq hr.units) (nomark _) (e_v 4) (e_int)) (e_one (e_cmp (o_eq hr.units) (nomark _) (e_call G_over (hr.mono (by decide)) hg tk rfl c.g_over k_over B_over_2_ (fun ds h => match ds, h with | [_, _], _ => rfl) (a_cons (e_call G_times (hr.mono (by decide)) hg tk rfl c.g_times k_times B_times_2_ (fun ds h => match ds, h with | [_, _], _ => rfl) (a_cons (e_v 0) (a_cons (e_v 1) (a_nil)))) (a_cons (e_v 1) (a_nil)))) (e_v 0))))))) (s_nil))))))))
def Ok__law_row_right (P : Program) (w : World) (K : PySem.W.Frag) (mg : Str → Option Value) (base : Heap) : Prop := ∃ fd, FnG P w K mg base 6 (He.ga K "_law_row_right") fd ["_law_row"] (spF K 1 fn__law_row_right) ∧ PySem.W.keepIn K (.ref (He.ga K "_law_row_right")) = true ∧ Bd K fd ["_law_row"] 1 [] [0] []
theorem ok__law_row_right (c : Fx K mg) (h_least_of : Ok_least_of P w K mg base) (h_greatest_of : Ok_greatest_of P w K mg base) (h_sum_of : Ok_sum_of P w K mg base) (h__law_reduced : Ok__law_reduced P w K mg base) : Ok__law_row_right P w K mg base := by
  obtain ⟨fd, F⟩ := c.d__law_row_right
  obtain ⟨fd_least_of, G_least_of, k_least_of, B_least_of_0_some, B_least_of_1_⟩ := h_least_of
  obtain ⟨fd_greatest_of, G_greatest_of, k_greatest_of, B_greatest_of_1_, B_greatest_of_0_some⟩ := h_greatest_of
  obtain ⟨fd_sum_of, G_sum_of, k_sum_of, B_sum_of_0_some, B_sum_of_1_⟩ := h_sum_of
  obtain ⟨fd__law_reduced, G__law_reduced, k__law_reduced, B__law_reduced_2_⟩ := h__law_reduced
  refine ⟨fd, fn_ok (N := ["_law_row", "_law_found", "_law_a", "_law_b", "_law_low", "_law_high"]) F sc__law_row_right (b := b__law_row_right) (fun cdv A outer s H E hg hr => ?_), F.kp, bd0 F (fun _ _ _ _ _ _ us hl => match us, hl with | [_], _ => rfl)⟩
  have tk := takes_of (X := cxOf (L2.CX P w) P w K mg base ["_law_row", "_law_found", "_law_a", "_law_b", "_law_low", "_law_high"] "_law_row_right" (defScope st__law_row_right) (He.ga K "_law_row_right") cdv A outer s H E) (E := E) rfl rfl rfl rfl
  have hp := passes_of (X := cxOf (L2.CX P w) P w K mg base ["_law_row", "_law_found", "_law_a", "_law_b", "_law_low", "_law_high"] "_law_row_right" (defScope st__law_row_right) (He.ga K "_law_row_right") cdv A outer s H E) rfl
  exact s_cons (s_set (i := 1) sc__law_row_right.nd rfl (Or.inl rfl) (e_tup (a_cons (e_int) (a_cons (e_int) (a_nil))))) (s_cons (s_for hp rfl (i_seq (e_v 0)) (pg_tup rfl (pgs_cons (pg_name (i := 2) sc__law_row_right.nd rfl (Or.inl rfl)) (pgs_cons (pg_name (i := 3) sc__law_row_right.nd rfl (Or.inl rfl)) (pgs_nil)))) (gp_tp rfl (gps_cons (gp_nm 2) (gps_cons (gp_nm 3) (gps_nil)))) (s_cons (s_set (i := 1) sc__law_row_right.nd rfl (Or.inl rfl) (e_call G__law_reduced (hr.mono (by decide)) hg tk rfl c.g__law_reduced k__law_reduced B__law_reduced_2_ (fun ds h => match ds, h with | [_, _], _ => rfl) (a_cons (e_bin o_add (e_bin o_mul (e_ix (e_v 1) (e_int) (fun _ _ => rfl)) (e_v 3)) (e_bin o_mul (e_v 2) (e_ix (e_v 1) (e_int) (fun _ _ => rfl)))) (a_cons (e_bin o_mul (e_ix (e_v 1) (e_int) (fun _ _ => rfl)) (e_v 3)) (a_nil))))) (s_nil))) (s_cons (s_if (t_cmp (o_ne hr.units) (nomark _) (e_callB (id := "repr") (c_repr hg hr.units) rfl c.n_repr (by decide +kernel) (a_cons (e_lst (a_cons (e_call G_sum_of (hr.mono (by decide)) hg tk rfl c.g_sum_of k_sum_of B_sum_of_1_ (fun ds h => match ds, h with | [_], _ => rfl) (a_cons (e_v 0) (a_nil))) (a_cons (e_callK0 (ks := ["some"]) G_sum_of (hr.mono (by decide)) hg tk rfl c.g_sum_of k_sum_of B_sum_of_0_some (fun ds h => match ds, h with | [_], _ => rfl) (k_cons (e_v 0) (k_nil))) (a_nil)))) (a_nil))) (e_callB (id := "repr") (c_repr hg hr.units) rfl c.n_repr (by decide +kernel) (a_cons (e_bin o_mul (e_lst (a_cons (e_v 1) (a_nil))) (e_int)) (a_nil)))) (s_cons (s_ret (e_bl)) (s_nil)) (s_nil)) (s_cons (s_put (e_tup (a_cons (e_call G_least_of (hr.mono (by decide)) hg tk rfl c.g_least_of k_least_of B_least_of_1_ (fun ds h => match ds, h with | [_], _ => rfl) (a_cons (e_v 0) (a_nil))) (a_cons (e_callK0 (ks := ["some"]) G_greatest_of (hr.mono (by decide)) hg tk rfl c.g_greatest_of k_greatest_of B_greatest_of_0_some (fun ds h => match ds, h with | [_], _ => rfl) (k_cons (e_v 0) (k_nil))) (a_nil)))) (pg_tup rfl (pgs_cons (pg_name (i := 4) sc__law_row_right.nd rfl (Or.inr rfl)) (pgs_cons (pg_name (i := 5) sc__law_row_right.nd rfl (Or.inr rfl)) (pgs_nil)))) (gp_tp rfl (gps_cons (gp_nm 4) (gps_cons (gp_nm 5) (gps_nil))))) (s_cons (s_if (PW.pt (w_or (t_cmp (o_ne hr.units) (nomark _) (e_v 4) (e_callK0 (ks := ["some"]) G_least_of (hr.mono (by decide)) hg tk rfl c.g_least_of k_least_of B_least_of_0_some (fun ds h => match ds, h with | [_], _ => rfl) (k_cons (e_v 0) (k_nil)))) (w_or (t_cmp (o_ne hr.units) (nomark _) (e_v 5) (e_call G_greatest_of (hr.mono (by decide)) hg tk rfl c.g_greatest_of k_greatest_of B_greatest_of_1_ (fun ds h => match ds, h with | [_], _ => rfl) (a_cons (e_v 0) (a_nil)))) (w_or (t_cmp (o_notinP (room65 hr)) rfl (e_v 4) (e_v 0)) (w_or1 (t_cmp (o_notinP (room65 hr)) rfl (e_v 5) (e_v 0))))))) (s_cons (s_ret (e_bl)) (s_nil)) (s_nil)) (s_cons (s_ret (e_callB (id := "all") (c_all rfl) rfl c.n_all (by decide +kernel) (a_cons (e_lc (own := [("_law_a", 2), ("_law_b", 3)]) rfl sc__law_row_right.nd (i_seq (e_v 0)) (blk_by ["_law_row", "_law_found", "_law_a", "_law_b", "_law_low", "_law_high"] (defScope st__law_row_right) (by decide +kernel)) (fun _ _ _ _ _ => pg_tup rfl (pgs_cons (pg_name (i := 2) sc__law_row_right.nd rfl (Or.inl rfl)) (pgs_cons (pg_name (i := 3) sc__law_row_right.nd rfl (Or.inl rfl)) (pgs_nil)))) (gp_tp rfl (gps_cons (gp_nm 2) (gps_cons (gp_nm 3) (gps_nil)))) (by decide) (fun _ _ _ _ _ => pts_nil) tt_no (fun _ _ _ _ _ => e_and (e_cmp o_le (nomark _) (e_bin o_mul (e_ix (e_v 4) (e_int) (fun _ _ => rfl)) (e_v 3)) (e_bin o_mul (e_v 2) (e_ix (e_v 4) (e_int) (fun _ _ => rfl)))) (e_one (e_cmp o_le (nomark _) (e_bin o_mul (e_v 2) (e_ix (e_v 5) (e_int) (fun _ _ => rfl))) (e_bin o_mul (e_ix (e_v 5) (e_int) (fun _ _ => rfl)) (e_v 3)))))) (a_nil)))) (s_nil))))))
def Ok__law_right (P : Program) (w : World) (K : PySem.W.Frag) (mg : Str → Option Value) (base : Heap) : Prop := ∃ fd, FnG P w K mg base 7 (He.ga K "_law_right") fd ["_law_pot_here"] (spF K 1 fn__law_right) ∧ PySem.W.keepIn K (.ref (He.ga K "_law_right")) = true ∧ Bd K fd ["_law_pot_here"] 1 [] [0] []
theorem ok__law_right (c : Fx K mg) (h__law_row_right : Ok__law_row_right P w K mg base) (h_sum_of : Ok_sum_of P w K mg base) (h__law_two_right : Ok__law_two_right P w K mg base) (h__law_of : Ok__law_of P w K mg base) (h__law_take : Ok__law_take P w K mg base) (h__law_drawn : Ok__law_drawn P w K mg base) : Ok__law_right P w K mg base := by
  obtain ⟨fd, F⟩ := c.d__law_right
  obtain ⟨fd__law_row_right, G__law_row_right, k__law_row_right, B__law_row_right_1_⟩ := h__law_row_right
  obtain ⟨fd_sum_of, G_sum_of, k_sum_of, B_sum_of_0_some, B_sum_of_1_⟩ := h_sum_of
  obtain ⟨fd__law_two_right, G__law_two_right, k__law_two_right, B__law_two_right_2_⟩ := h__law_two_right
  obtain ⟨fd__law_of, G__law_of, k__law_of, B__law_of_2_⟩ := h__law_of
  obtain ⟨fd__law_take, G__law_take, k__law_take, B__law_take_2_⟩ := h__law_take
  obtain ⟨fd__law_drawn, G__law_drawn, k__law_drawn, B__law_drawn_1_⟩ := h__law_drawn
  refine ⟨fd, fn_ok (N := ["_law_pot_here", "_law_row", "_law_first", "_law_turn", "_law_second"]) F sc__law_right (b := b__law_right) (fun cdv A outer s H E hg hr => ?_), F.kp, bd0 F (fun _ _ _ _ _ _ us hl => match us, hl with | [_], _ => rfl)⟩
  have tk := takes_of (X := cxOf (L2.CX P w) P w K mg base ["_law_pot_here", "_law_row", "_law_first", "_law_turn", "_law_second"] "_law_right" (defScope st__law_right) (He.ga K "_law_right") cdv A outer s H E) (E := E) rfl rfl rfl rfl
  have hp := passes_of (X := cxOf (L2.CX P w) P w K mg base ["_law_pot_here", "_law_row", "_law_first", "_law_turn", "_law_second"] "_law_right" (defScope st__law_right) (He.ga K "_law_right") cdv A outer s H E) rfl
  exact s_cons (s_setLc (i := 1) (own := [("_law_turn", 3)]) rfl sc__law_right.nd rfl rfl (sw_true rfl rfl rfl (by decide +kernel)) (i_rng rfl c.n_range (e_bin o_add (e_int) (e_call G__law_take (hr.mono (by decide)) hg tk rfl c.g__law_take k__law_take B__law_take_2_ (fun ds h => match ds, h with | [_, _], _ => rfl) (a_cons (e_v 0) (a_cons (e_int) (a_nil)))))) (blk_by ["_law_pot_here", "_law_row", "_law_first", "_law_turn", "_law_second"] (defScope st__law_right) (by decide +kernel)) (fun _ _ _ _ _ => pg_name (i := 3) sc__law_right.nd rfl (Or.inl rfl)) (gp_nm 3) (by decide) (fun _ _ _ _ _ => pts_nil) tt_no (fun _ _ _ _ _ => e_call G__law_drawn (hr.mono (by decide)) hg tk_no rfl c.g__law_drawn k__law_drawn B__law_drawn_1_ (fun ds h => match ds, h with | [_], _ => rfl) (a_cons (e_v 0) (a_nil)))) (s_cons (s_ex (e_meth PySem.F.plainAttrs_list PySem.F.slot_list_append PySem.F.type_list_append m_app ty_lst q_app (e_v 1) (a_cons (e_call G__law_of (hr.mono (by decide)) hg tk rfl c.g__law_of k__law_of B__law_of_2_ (fun ds h => match ds, h with | [_, _], _ => rfl) (a_cons (e_v 0) (a_cons (e_v 1) (a_nil)))) (a_nil)))) (s_cons (s_for hp rfl (i_seq (e_v 1)) (pg_name (i := 2) sc__law_right.nd rfl (Or.inr rfl)) (gp_nm 2) (s_cons (s_if (t_not (t_of (e_callB (id := "all") (c_all rfl) rfl c.n_all (by decide +kernel) (a_cons (e_lc (own := [("_law_second", 4)]) rfl sc__law_right.nd (i_seq (e_bin o_add (e_v 1) (e_lst (a_cons (e_tup (a_cons (e_int) (a_cons (e_int) (a_nil)))) (a_cons (e_tup (a_cons (e_int) (a_cons (e_int) (a_nil)))) (a_cons (e_tup (a_cons (e_un o_neg (e_int)) (a_cons (e_int) (a_nil)))) (a_nil))))))) (blk_by ["_law_pot_here", "_law_row", "_law_first", "_law_turn", "_law_second"] (defScope st__law_right) (by decide +kernel)) (fun _ _ _ _ _ => pg_name (i := 4) sc__law_right.nd rfl (Or.inl rfl)) (gp_nm 4) (by decide) (fun _ _ _ _ _ => pts_nil) tt_no (fun _ _ _ _ _ => e_call G__law_two_right (hr.mono (by decide)) hg tk_no rfl c.g__law_two_right k__law_two_right B__law_two_right_2_ (fun ds h => match ds, h with | [_, _], _ => rfl) (a_cons (e_v 2) (a_cons (e_v 4) (a_nil))))) (a_nil))))) (s_cons (s_ret (e_bl)) (s_nil)) (s_nil)) (s_nil))) (s_cons (s_ret (e_and (e_call G__law_row_right (hr.mono (by decide)) hg tk rfl c.g__law_row_right k__law_row_right B__law_row_right_1_ (fun ds h => match ds, h with | [_], _ => rfl) (a_cons (e_callT (T := "tuple") c_tuple rfl c.n_tuple (by decide +kernel) (a_cons (e_v 1) (a_nil))) (a_nil))) (e_and (e_call G__law_row_right (hr.mono (by decide)) hg tk rfl c.g__law_row_right k__law_row_right B__law_row_right_1_ (fun ds h => match ds, h with | [_], _ => rfl) (a_cons (e_callT (T := "tuple") c_tuple rfl c.n_tuple (by decide +kernel) (a_cons (e_sl (e_v 1) (p_none) (p_some (e_int))) (a_nil))) (a_nil))) (e_one (e_cmp (o_eq hr.units) (nomark _) (e_call G_sum_of (hr.mono (by decide)) hg tk rfl c.g_sum_of k_sum_of B_sum_of_1_ (fun ds h => match ds, h with | [_], _ => rfl) (a_cons (e_tup (a_nil)) (a_nil))) (e_tup (a_cons (e_int) (a_cons (e_int) (a_nil))))))))) (s_nil))))
def Ok_law (P : Program) (w : World) (K : PySem.W.Frag) (mg : Str → Option Value) (base : Heap) : Prop := ∃ fd, FnG P w K mg base 8 (He.ga K "law") fd ["_law_script"] (spF K 1 fn_law) ∧ PySem.W.keepIn K (.ref (He.ga K "law")) = true ∧ FunD K "law" "law" (defArgs st_law) (defBody st_law) (defScope st_law) [] [] (He.ga K "law") fd
theorem ok_law (c : Fx K mg) (h__law_right : Ok__law_right P w K mg base) (h__law_pot : Ok__law_pot P w K mg base) : Ok_law P w K mg base := by
  obtain ⟨fd, F⟩ := c.d_law
  obtain ⟨fd__law_right, G__law_right, k__law_right, B__law_right_1_⟩ := h__law_right
  obtain ⟨fd__law_pot, G__law_pot, k__law_pot, B__law_pot_2_⟩ := h__law_pot
  refine ⟨fd, fn_ok (N := ["_law_script", "_law_k"]) F sc_law (b := b_law) (fun cdv A outer s H E hg hr => ?_), F.kp, F⟩
  have tk := takes_of (X := cxOf (L2.CX P w) P w K mg base ["_law_script", "_law_k"] "law" (defScope st_law) (He.ga K "law") cdv A outer s H E) (E := E) rfl rfl rfl rfl
  have hp := passes_of (X := cxOf (L2.CX P w) P w K mg base ["_law_script", "_law_k"] "law" (defScope st_law) (He.ga K "law") cdv A outer s H E) rfl
  exact s_cons (s_ret (e_callB (id := "all") (c_all rfl) rfl c.n_all (by decide +kernel) (a_cons (e_lc (own := [("_law_k", 1)]) rfl sc_law.nd (i_rng rfl c.n_range (e_callB (id := "max") (c_max2 rfl) rfl c.n_max (by decide +kernel) (a_cons (e_int) (a_cons (e_callB (id := "min") (c_min2 rfl) rfl c.n_min (by decide +kernel) (a_cons (e_int) (a_cons (e_callB (id := "len") c_len rfl c.n_len (by decide +kernel) (a_cons (e_v 0) (a_nil))) (a_nil)))) (a_nil))))) (blk_by ["_law_script", "_law_k"] (defScope st_law) (by decide +kernel)) (fun _ _ _ _ _ => pg_name (i := 1) sc_law.nd rfl (Or.inl rfl)) (gp_nm 1) (by decide) (fun _ _ _ _ _ => pts_nil) tt_no (fun _ _ _ _ _ => e_call G__law_right (hr.mono (by decide)) hg tk_no rfl c.g__law_right k__law_right B__law_right_1_ (fun ds h => match ds, h with | [_], _ => rfl) (a_cons (e_call G__law_pot (hr.mono (by decide)) hg tk_no rfl c.g__law_pot k__law_pot B__law_pot_2_ (fun ds h => match ds, h with | [_, _], _ => rfl) (a_cons (e_v 0) (a_cons (e_v 1) (a_nil)))) (a_nil)))) (a_nil)))) (s_nil)
end
end P
namespace Z
open PySem PySem.Spec PyProof.Rows L2
/-! ### what the head tells -/
theorem mem_lk {α β : Type} [BEq α] [LawfulBEq α] {a : α} {b : β} {l : List (α × β)} (h : l.lookup a = some b) : (a, b) ∈ l := by
  induction l with
  | nil => cases h
  | cons p r ih =>
    obtain ⟨c, d⟩ := p
    rw [List.lookup_cons] at h
    by_cases q : (a == c) = true
    · rw [q] at h
      rw [beq_iff_eq.mp q]
      cases h
      exact List.mem_cons_self
    · rw [Bool.eq_false_iff.mpr q] at h
      exact List.mem_cons_of_mem _ (ih h)
def clsB (K : PySem.W.Frag) (tab : Tab) : Bool := tabB K tab && (dscB K && tab.all fun p => match p.1.1 with
  | .own c => excB K c
  | _ => true)
theorem clsB_ok {K : PySem.W.Frag} {tab : Tab} (h : clsB K tab = true) : ClsOk K tab := by
  obtain ⟨h1, h2⟩ := He.ba h
  obtain ⟨h3, h4⟩ := He.ba h2
  refine ⟨h1, h3, fun c k b e => ?_⟩
  exact excB_ok (List.all_eq_true.mp h4 ((.own c, k), b) (mem_lk e))
def fldB (K : PySem.W.Frag) (f : Str) (c : Str) : Bool := excB K c && decide (PySem.W.findIn K (.ref (He.ga K c)) f = some none)
theorem fldB_ok {K : PySem.W.Frag} {f : Str} {cs : List Str} (h : cs.all (fldB K f) = true) : ∀ c ∈ cs, ExcF K c ∧ PySem.W.findIn K (.ref (He.ga K c)) f = some none := fun c hc =>
  have q := He.ba (List.all_eq_true.mp h c hc)
  ⟨excB_ok q.1, of_decide_eq_true q.2⟩
def modB (K : PySem.W.Frag) (x : Str) (id : String) : Bool := decide (PySem.W.nsIn K mainGlobals x = some (some (.builtin id)))
theorem modB_ok {K : PySem.W.Frag} {h : Heap} {mg : Str → Option Value} (X : K.In h) (G : h.Ns mainGlobals mg) {x : Str} {id : String} (c : modB K x id = true) : mg x = some (.builtin id) := PySem.W.mg_of X G (of_decide_eq_true c)
/-- the look: the named part of the heap, one Bool more -/
def part (n : Nat) (g : Addr → Option Obj) : PySem.W.Frag := He.frG g (He.asD g n)
def look (n : Nat) (fa : List He.Fa) (fn : List He.DefD) (ex : PySem.W.Frag → Bool) (g : Addr → Option Obj) : Bool × He.AlD := (ex (part n g), He.obsD fa fn (part n g))
structure Told (fa : List He.Fa) (fn : List He.DefD) (ex : PySem.W.Frag → Bool) (K : PySem.W.Frag) : Prop where
  d : He.SaysD fa fn K
  x : ex K = true
def hookG (n : Nat) (fa : List He.Fa) (fn : List He.DefD) (ex : PySem.W.Frag → Bool) : PySem.W.Hook where
  α := Bool × He.AlD
  obs := fun s => look n fa fn ex s.heap.get?
  val := fun _ => (true, He.valD fn)
  says := fun _ h => ∃ K : PySem.W.Frag, K.In h ∧ Told fa fn ex K
  of := fun _ s e => ⟨part n s.heap.get?, He.frG_in, (Prod.mk.inj e).2, (Prod.mk.inj e).1⟩
  keeps := fun _ _ _ ⟨K, hK, c⟩ k => ⟨K, hK.keeps k, c⟩
theorem look_eq {n : Nat} {fa : List He.Fa} {fn : List He.DefD} {ex : PySem.W.Frag → Bool} (s : PySem.W.SharedT) : look n fa fn ex (HandSHeadRun.getT s) = (hookG n fa fn ex).obs s.abs :=
  congrArg (look n fa fn ex) (funext (HandSHeadRun.getT_eq s))
theorem fund_one {K : PySem.W.Frag} {x qual : Str} {params : Arguments} {body : List Stmt} {scope : Scope} {dvs : List V} {kws : List (Str × V)} {f : Addr} {fd fd' : FuncData} (F : FunD K x qual params body scope dvs kws f fd) (F' : FunD K x qual params body scope dvs kws f fd') : fd = fd' := by
  obtain ⟨_, _, _, _, _, _, _, _, _, _, e, lk, _⟩ := F.ex
  obtain ⟨_, _, _, _, _, _, _, _, _, _, e', lk', _⟩ := F'.ex
  rw [lk] at lk'
  clear e e'
  cases lk'
  rfl
/-! ### the law's call, from the def's function -/
/-- the script, and nothing else, may be watched -/
structure Solo (K : PySem.W.Frag) (H : Hp) (a : Addr) : Prop where
  one : ∀ b, H b ≠ none → b = a ∧ K.lookup a = none ∧ ∃ o xs, H b = some (.frz o (.lst xs))
theorem Solo.off {K : PySem.W.Frag} {H : Hp} {a b : Addr} (S : Solo K H a) {h : Heap} {o : Obj} {vs : List Value} (ha : h.get? a = some { cls := .type "list", data := .seq vs.toArray }) (e : h.get? b = some o) (hd : ∃ es ep, o.data = .dict es ep) : H b = none := by
  by_cases q : H b = none
  · exact q
  · obtain ⟨rfl, _⟩ := S.one b q
    rw [ha] at e
    obtain ⟨es, ep, hd⟩ := hd
    cases e
    cases hd
theorem call_core {P : Program} {w : World} {K : PySem.W.Frag} {mg mb : Str → Option Value} {k : Nat} {fa a : Addr} {fd : FuncData} {x : Str} {s₁ : Shared} {vs : List Value} {sp : Sp} {H : Hp}
    (KX : K.In s₁.heap) (hns : s₁.heap.Ns mainGlobals mg) (hb : s₁.heap.Ns builtinsNs mb) (hbb : ∀ x : Str, x ≠ "__name__" → mb x = bootBuiltins x) (hlim : s₁.heap.NoLimit) (hg : s₁.gens = #[])
    (ha : s₁.heap.get? a = some { cls := .type "list", data := .seq vs.toArray }) (hr : Room k callerA)
    (F : ∀ base : Heap, K.In base → base.Ns mainGlobals mg → FnG P w K mg base k fa fd [x] sp) (hbind : ∀ (s : Shared) (u : Value), BindsTo s fd ⟨[u], []⟩ [(x, u)])
    (S : Solo K H a) (hok : HOk P w H s₁.heap) (hsp : sp [.ref a] H (fun v _ => v = .bl true) fun _ _ _ => False) :
    codeAny (model P w) callerA (.call (.ref fa) ⟨[.ref a], []⟩) (fun r s' => r = .ok (.ret (.bool true)) ∧ OldK s₁.heap s'.heap ∧ s'.os = s₁.os ∧ AllBare s'.gens) s₁ := by
  have kin : K.In (hidT s₁.heap H) := fun b o e => hidT_get (KX b o e) (Classical.byContradiction fun z => by
    obtain ⟨rfl, n, _⟩ := S.one b z
    rw [n] at e
    cases e)
  have dicts : ∀ {b : Addr} {m : Str → Option Value}, s₁.heap.Ns b m → (hidT s₁.heap H).Ns b m := fun ⟨o, es, ep, e, d, r⟩ => ⟨o, es, ep, hidT_get e (S.off ha e ⟨es, ep, d⟩), d, r⟩
  obtain ⟨mc, l1, l2⟩ := hlim
  have env : Env0 P w K mg (hidT s₁.heap H) callerA [] s₁ H :=
    { frames := rfl, mod := ⟨kin, dicts hns, ⟨mb, dicts hb, hbb⟩, ⟨mc, dicts l1, l2⟩⟩, bs := fun b o e => of_hidT e, bsz := Nat.le_of_eq (hidT_size _ _), funs := trivial, frf := fun b hb => (by cases hb), hok := hok, bare := .of_eq hg }
  refine codeAny_mono ((F _ kin (dicts hns)).run callerA [] s₁ H ⟨[.ref a], []⟩ [.ref a] [.ref a] _ _ rfl hr env (hbind s₁ (.ref a)) (.cons rfl .nil) hsp) ?_
  intro r s' h
  match r, h with
  | .error e, h =>
    obtain ⟨_, _, _, _, _, _, _, _, _, _, _, _, bad⟩ := h
    exact bad.elim
  | .ok .next, h => exact False.elim h
  | .ok .brk, h => exact False.elim h
  | .ok .cont, h => exact False.elim h
  | .ok (.ret u), ⟨v, H', os, bare, un, hok', r', (q : v = .bl true)⟩ =>
    subst q
    have eu : u = Value.bool true := r'
    subst eu
    refine ⟨rfl, OldK.of_keep (fun b o e => ?_), os, bare⟩
    by_cases z : H b = none
    · exact un.keep b o e z (fun q => by cases q) (by simp)
    · obtain ⟨rfl, _, ob, xs, eq⟩ := S.one b z
      have f1 := (hok b _ eq).1
      have f2 := (hok' b _ (un.frzs b ob _ eq)).1
      rw [f1] at e
      cases e
      exact f2
theorem walk_ofG {l : PySem.W.OpenLaw} {n k : Nat} {q : Program} {loose : List Str} {XP : (Str → Option Value) → Heap → Prop} {YP : World → Heap → Prop} {d : DefRec} {x : Str} {fn : List D → Sto → Res}
    (hn : l.most = some n) (hn2 : n ≤ sizeLine) (hdf : d.params.defaults = []) (hr : Room k callerA)
    (F : ∀ (w : World) (mg : Str → Option Value) (fa : Addr) (h : Heap), YP w h → h.Ns mainGlobals mg → mg d.name = some (.ref fa) →
      ∃ (K : PySem.W.Frag) (fd : FuncData), K.In h ∧ (∀ (s : Shared) (u : Value), BindsTo s fd ⟨[u], []⟩ [(x, u)]) ∧ ∀ base : Heap, K.In base → base.Ns mainGlobals mg → FnG l.prog w K mg base k fa fd [x] (spF K 1 fn))
    (math : ∀ ns : List Int, ns.length ≤ n → ∃ S, fn [.fl (ns.map .int)] [] = .ok (.bl true) S) :
    PySem.W.WalkO q loose XP YP l.row.toRowW d [] (fun f vs => PySem.call f vs) := by
  refine Att.attach_call hn hdf fun w s₀ s₁ mg mb fa o pm cd doc a vs ns G Y ho hd hcd hmg hobj hints hlen hg => ?_
  obtain ⟨K, fd, KX, hb, hF⟩ := F w mg fa _ Y G.T.g hmg
  obtain ⟨S, hS⟩ := math ns hlen
  have size := Nat.le_trans hlen hn2
  have vals := vals_ints hints
  have data : ∀ {H : Hp}, RVs K H [] (ns.map .int) (ns.map V.int) := fun {H} => by
    clear hS hlen hints vals size
    induction ns with
    | nil => exact .nil
    | cons i t ih => exact .cons (.int i) ih
  have told : ∀ H : Hp, SqF K H a (ns.map V.int) → spF K 1 fn [.ref a] H (fun v _ => v = .bl true) fun _ _ _ => False := fun H hq => by
    refine ⟨[], [], [.fl (ns.map .int)], rfl, ⟨rfl, fun i j a h => (by cases h), fun i c h => (by cases h)⟩, .cons (.fl hq data) .nil, ?_⟩
    rw [hS]
    intro H' m' v _ _ r
    cases r
    rfl
  cases hk : K.lookup a with
  | some o1 =>
    have e := KX a o1 hk
    rw [hobj] at e
    cases e
    exact call_core KX G.T.g G.T.b G.T.builtins G.T.nolimit hg hobj hr hF hb (H := fun _ => none) ⟨fun b z => absurd rfl z⟩ (fun b u z => nomatch (show (none : Option HO) = some u from z))
      (told _ (.inr (.inr ⟨_, vs.toArray, _, hk, rfl, rfl, rfl, by rw [List.size_toArray, hints.length]; exact size, by simpa using vals⟩)))
  | none =>
    let c : HO := .frz { cls := .type "list", data := .seq vs.toArray } (.lst (ns.map V.int))
    refine call_core KX G.T.g G.T.b G.T.builtins G.T.nolimit hg hobj hr hF hb (H := fun b => if b = a then some c else none) ⟨fun b z => ?_⟩ (fun b u z => ?_) (told _ (.inl ⟨_, if_pos rfl⟩))
    · by_cases hba : b = a
      · exact ⟨hba, hk, _, _, if_pos hba⟩
      · exact absurd (if_neg hba) z
    · by_cases hba : b = a
      · subst hba
        have z2 := (if_pos rfl).symm.trans z
        cases z2
        exact ⟨hobj, by rw [List.length_map]; exact size, vs, _, vals, hobj⟩
      · have z2 := (if_neg hba).symm.trans z
        cases z2
end Z
namespace P
open PySem PySem.Spec PyProof.Rows L2 Z
def dd_is_whole : He.DefD := ⟨("is_whole", none), "is_whole", "is_whole", defArgs st_is_whole, defBody st_is_whole, defScope st_is_whole, [], []⟩
def dd_is_fraction : He.DefD := ⟨("is_fraction", none), "is_fraction", "is_fraction", defArgs st_is_fraction, defBody st_is_fraction, defScope st_is_fraction, [], []⟩
def dd_part : He.DefD := ⟨("part", none), "part", "part", defArgs st_part, defBody st_part, defScope st_part, [.int 1], []⟩
def dd_plus : He.DefD := ⟨("plus", none), "plus", "plus", defArgs st_plus, defBody st_plus, defScope st_plus, [], []⟩
def dd_minus : He.DefD := ⟨("minus", none), "minus", "minus", defArgs st_minus, defBody st_minus, defScope st_minus, [], []⟩
def dd_times : He.DefD := ⟨("times", none), "times", "times", defArgs st_times, defBody st_times, defScope st_times, [], []⟩
def dd_over : He.DefD := ⟨("over", none), "over", "over", defArgs st_over, defBody st_over, defScope st_over, [], []⟩
def dd_is_less : He.DefD := ⟨("is_less", none), "is_less", "is_less", defArgs st_is_less, defBody st_is_less, defScope st_is_less, [], []⟩
def dd_sum_of : He.DefD := ⟨("sum_of", none), "sum_of", "sum_of", defArgs st_sum_of, defBody st_sum_of, defScope st_sum_of, [], []⟩
def dd_least_of : He.DefD := ⟨("least_of", none), "least_of", "least_of", defArgs st_least_of, defBody st_least_of, defScope st_least_of, [], []⟩
def dd_greatest_of : He.DefD := ⟨("greatest_of", none), "greatest_of", "greatest_of", defArgs st_greatest_of, defBody st_greatest_of, defScope st_greatest_of, [], []⟩
def dd__law_pot : He.DefD := ⟨("_law_pot", none), "_law_pot", "_law_pot", defArgs st__law_pot, defBody st__law_pot, defScope st__law_pot, [], []⟩
def dd__law_take : He.DefD := ⟨("_law_take", none), "_law_take", "_law_take", defArgs st__law_take, defBody st__law_take, defScope st__law_take, [], []⟩
def dd__law_of : He.DefD := ⟨("_law_of", none), "_law_of", "_law_of", defArgs st__law_of, defBody st__law_of, defScope st__law_of, [], []⟩
def dd__law_reduced : He.DefD := ⟨("_law_reduced", none), "_law_reduced", "_law_reduced", defArgs st__law_reduced, defBody st__law_reduced, defScope st__law_reduced, [], []⟩
def dd__law_drawn : He.DefD := ⟨("_law_drawn", none), "_law_drawn", "_law_drawn", defArgs st__law_drawn, defBody st__law_drawn, defScope st__law_drawn, [], []⟩
def dd__law_over_right : He.DefD := ⟨("_law_over_right", none), "_law_over_right", "_law_over_right", defArgs st__law_over_right, defBody st__law_over_right, defScope st__law_over_right, [], []⟩
def dd__law_two_right : He.DefD := ⟨("_law_two_right", none), "_law_two_right", "_law_two_right", defArgs st__law_two_right, defBody st__law_two_right, defScope st__law_two_right, [], []⟩
def dd__law_row_right : He.DefD := ⟨("_law_row_right", none), "_law_row_right", "_law_row_right", defArgs st__law_row_right, defBody st__law_row_right, defScope st__law_row_right, [], []⟩
def dd__law_right : He.DefD := ⟨("_law_right", none), "_law_right", "_law_right", defArgs st__law_right, defBody st__law_right, defScope st__law_right, [], []⟩
def dd_law : He.DefD := ⟨("law", none), "law", "law", defArgs st_law, defBody st_law, defScope st_law, [], []⟩
def dd_init_NoPart : He.DefD := ⟨("NoPart", some "__init__"), "__init__", "NoPart.__init__", defArgs si_NoPart, defBody si_NoPart, defScope si_NoPart, [], []⟩
def fnl : List He.DefD := [dd_is_whole, dd_is_fraction, dd_part, dd_plus, dd_minus, dd_times, dd_over, dd_is_less, dd_sum_of, dd_least_of, dd_greatest_of, dd__law_pot, dd__law_take, dd__law_of, dd__law_reduced, dd__law_drawn, dd__law_over_right, dd__law_two_right, dd__law_row_right, dd__law_right, dd_law, dd_init_NoPart]
def fal : List He.Fa := [.glo "LateError", .glo "NOUGHT", .glo "NoPart", .glo "_law_drawn", .glo "_law_of", .glo "_law_over_right", .glo "_law_pot", .glo "_law_reduced", .glo "_law_right", .glo "_law_row_right", .glo "_law_take", .glo "_law_two_right", .glo "greatest_of", .glo "is_fraction", .glo "is_less", .glo "is_whole", .glo "least_of", .glo "minus", .glo "over", .glo "part", .glo "plus", .glo "sum_of", .glo "times", .glo "law", .free "abs", .free "all", .free "bool", .free "int", .free "isinstance", .free "len", .free "max", .free "min", .free "range", .free "repr", .free "tuple"]
def exl (K : PySem.W.Frag) : Bool := clsB K itab && (modB K "gcd" "math.gcd" && (He.tupB K "NOUGHT" [.int 0, .int 1] && (rsB K "NoPart" && ([("NoPart" : Str)].all (fldB K "n") && (decide (PySem.W.findIn K (.ref (He.ga K "NoPart")) "n" = some none) && (caughtB K ct__law_over_right_0 [.own "LateError"]))))))
theorem fx_of {K : PySem.W.Frag} {h : Heap} {mg : Str → Option Value} (X : K.In h) (G : h.Ns mainGlobals mg) (T : Told fal fnl exl K) : Fx K mg := by
  obtain ⟨e_cls, r0⟩ := He.ba T.x
  obtain ⟨e_m_gcd, r1⟩ := He.ba r0
  obtain ⟨e_k_NOUGHT, r2⟩ := He.ba r1
  obtain ⟨e_rs_NoPart, r3⟩ := He.ba r2
  obtain ⟨e_fld_n, r4⟩ := He.ba r3
  obtain ⟨e_no_NoPart, r5⟩ := He.ba r4
  have e_ct__law_over_right_0 := r5
  exact
    { g_LateError := He.glo_ok X G (T.d.fact 0 (f := .glo "LateError") rfl)
      g_NOUGHT := He.glo_ok X G (T.d.fact 1 (f := .glo "NOUGHT") rfl)
      g_NoPart := He.glo_ok X G (T.d.fact 2 (f := .glo "NoPart") rfl)
      g__law_drawn := He.glo_ok X G (T.d.fact 3 (f := .glo "_law_drawn") rfl)
      g__law_of := He.glo_ok X G (T.d.fact 4 (f := .glo "_law_of") rfl)
      g__law_over_right := He.glo_ok X G (T.d.fact 5 (f := .glo "_law_over_right") rfl)
      g__law_pot := He.glo_ok X G (T.d.fact 6 (f := .glo "_law_pot") rfl)
      g__law_reduced := He.glo_ok X G (T.d.fact 7 (f := .glo "_law_reduced") rfl)
      g__law_right := He.glo_ok X G (T.d.fact 8 (f := .glo "_law_right") rfl)
      g__law_row_right := He.glo_ok X G (T.d.fact 9 (f := .glo "_law_row_right") rfl)
      g__law_take := He.glo_ok X G (T.d.fact 10 (f := .glo "_law_take") rfl)
      g__law_two_right := He.glo_ok X G (T.d.fact 11 (f := .glo "_law_two_right") rfl)
      g_greatest_of := He.glo_ok X G (T.d.fact 12 (f := .glo "greatest_of") rfl)
      g_is_fraction := He.glo_ok X G (T.d.fact 13 (f := .glo "is_fraction") rfl)
      g_is_less := He.glo_ok X G (T.d.fact 14 (f := .glo "is_less") rfl)
      g_is_whole := He.glo_ok X G (T.d.fact 15 (f := .glo "is_whole") rfl)
      g_least_of := He.glo_ok X G (T.d.fact 16 (f := .glo "least_of") rfl)
      g_minus := He.glo_ok X G (T.d.fact 17 (f := .glo "minus") rfl)
      g_over := He.glo_ok X G (T.d.fact 18 (f := .glo "over") rfl)
      g_part := He.glo_ok X G (T.d.fact 19 (f := .glo "part") rfl)
      g_plus := He.glo_ok X G (T.d.fact 20 (f := .glo "plus") rfl)
      g_sum_of := He.glo_ok X G (T.d.fact 21 (f := .glo "sum_of") rfl)
      g_times := He.glo_ok X G (T.d.fact 22 (f := .glo "times") rfl)
      n_abs := He.free_ok X G (T.d.fact 24 (f := .free "abs") rfl)
      n_all := He.free_ok X G (T.d.fact 25 (f := .free "all") rfl)
      n_bool := He.free_ok X G (T.d.fact 26 (f := .free "bool") rfl)
      n_int := He.free_ok X G (T.d.fact 27 (f := .free "int") rfl)
      n_isinstance := He.free_ok X G (T.d.fact 28 (f := .free "isinstance") rfl)
      n_len := He.free_ok X G (T.d.fact 29 (f := .free "len") rfl)
      n_max := He.free_ok X G (T.d.fact 30 (f := .free "max") rfl)
      n_min := He.free_ok X G (T.d.fact 31 (f := .free "min") rfl)
      n_range := He.free_ok X G (T.d.fact 32 (f := .free "range") rfl)
      n_repr := He.free_ok X G (T.d.fact 33 (f := .free "repr") rfl)
      n_tuple := He.free_ok X G (T.d.fact 34 (f := .free "tuple") rfl)
      d_is_whole := T.d.def_ 0 (d := dd_is_whole) rfl
      d_is_fraction := T.d.def_ 1 (d := dd_is_fraction) rfl
      d_part := T.d.def_ 2 (d := dd_part) rfl
      d_plus := T.d.def_ 3 (d := dd_plus) rfl
      d_minus := T.d.def_ 4 (d := dd_minus) rfl
      d_times := T.d.def_ 5 (d := dd_times) rfl
      d_over := T.d.def_ 6 (d := dd_over) rfl
      d_is_less := T.d.def_ 7 (d := dd_is_less) rfl
      d_sum_of := T.d.def_ 8 (d := dd_sum_of) rfl
      d_least_of := T.d.def_ 9 (d := dd_least_of) rfl
      d_greatest_of := T.d.def_ 10 (d := dd_greatest_of) rfl
      d__law_pot := T.d.def_ 11 (d := dd__law_pot) rfl
      d__law_take := T.d.def_ 12 (d := dd__law_take) rfl
      d__law_of := T.d.def_ 13 (d := dd__law_of) rfl
      d__law_reduced := T.d.def_ 14 (d := dd__law_reduced) rfl
      d__law_drawn := T.d.def_ 15 (d := dd__law_drawn) rfl
      d__law_over_right := T.d.def_ 16 (d := dd__law_over_right) rfl
      d__law_two_right := T.d.def_ 17 (d := dd__law_two_right) rfl
      d__law_row_right := T.d.def_ 18 (d := dd__law_row_right) rfl
      d__law_right := T.d.def_ 19 (d := dd__law_right) rfl
      d_law := T.d.def_ 20 (d := dd_law) rfl
      i_NoPart := T.d.def_ 21 (d := dd_init_NoPart) rfl
      cls := clsB_ok e_cls
      m_gcd := modB_ok X G e_m_gcd
      k_NOUGHT := e_k_NOUGHT
      rs_NoPart := rsB_ok e_rs_NoPart
      fld_n := fldB_ok e_fld_n
      no_NoPart := of_decide_eq_true e_no_NoPart
      ct__law_over_right_0 := e_ct__law_over_right_0 }
abbrev hk : PySem.W.Hook := hookG 5 fal fnl exl
def ob (s : PySem.W.SharedT) : Bool × He.AlD := look 5 fal fnl exl (HandSHeadRun.getT s)
theorem ob_eq (s : PySem.W.SharedT) : ob s = hk.obs s.abs := look_eq s
def loose : List Str := (["LateError", "NoPart", "NOUGHT", "is_whole", "is_fraction", "part", "plus", "minus", "times", "over", "is_less", "sum_of", "least_of", "greatest_of", "_law_pot", "_law_take", "_law_of", "_law_reduced", "_law_drawn", "_law_over_right", "_law_two_right", "_law_row_right", "_law_right"] : List Str)
abbrev Rw : PySem.W.OpenRow := PySem.W.OpenLaw.row PySem.Challenge.rw_lateshares_k02_fractions_reckoned
abbrev vw : Program := PySem.W.view Rw.prog [0, 27]
theorem run (w : World) : HandSHeadRun.RunEqI Rw vw hk ob 6000 loose w := by
  unfold HandSHeadRun.RunEqI
  kernel_rfl
theorem pick_law {P : Program} {w : World} {K : PySem.W.Frag} {mg : Str → Option Value} {base : Heap} (c : Fx K mg) : Ok_law P w K mg base :=
  have o_is_whole : Ok_is_whole P w K mg base := ok_is_whole c
  have o_is_fraction : Ok_is_fraction P w K mg base := ok_is_fraction c o_is_whole
  have o_part : Ok_part P w K mg base := ok_part c
  have o_plus : Ok_plus P w K mg base := ok_plus c o_part
  have o_minus : Ok_minus P w K mg base := ok_minus c o_part
  have o_times : Ok_times P w K mg base := ok_times c o_part
  have o_over : Ok_over P w K mg base := ok_over c o_part
  have o_is_less : Ok_is_less P w K mg base := ok_is_less c
  have o_sum_of : Ok_sum_of P w K mg base := ok_sum_of c o_plus
  have o_least_of : Ok_least_of P w K mg base := ok_least_of c o_is_less
  have o_greatest_of : Ok_greatest_of P w K mg base := ok_greatest_of c o_is_less
  have o__law_pot : Ok__law_pot P w K mg base := ok__law_pot c
  have o__law_take : Ok__law_take P w K mg base := ok__law_take c
  have o__law_of : Ok__law_of P w K mg base := ok__law_of c o__law_take
  have o__law_reduced : Ok__law_reduced P w K mg base := ok__law_reduced c
  have o__law_drawn : Ok__law_drawn P w K mg base := ok__law_drawn c o__law_reduced o__law_take o__law_of
  have o__law_over_right : Ok__law_over_right P w K mg base := ok__law_over_right c o_over o__law_reduced
  have o__law_two_right : Ok__law_two_right P w K mg base := ok__law_two_right c o_minus o_plus o_over o_times o__law_over_right o_is_less o_is_fraction o__law_reduced
  have o__law_row_right : Ok__law_row_right P w K mg base := ok__law_row_right c o_least_of o_greatest_of o_sum_of o__law_reduced
  have o__law_right : Ok__law_right P w K mg base := ok__law_right c o__law_row_right o_sum_of o__law_two_right o__law_of o__law_take o__law_drawn
  ok_law c o__law_right o__law_pot
theorem law_facts {P : Program} {w : World} {K : PySem.W.Frag} {h : Heap} {mg : Str → Option Value} {f : Addr} (X : K.In h) (G : h.Ns mainGlobals mg) (hfa : mg "law" = some (.ref f)) (T : Told fal fnl exl K) :
    ∃ fd : FuncData, (∀ (s : Shared) (v : Value), BindsTo s fd ⟨[v], []⟩ [("_law_script", v)]) ∧ ∀ base : Heap, FnG P w K mg base 8 f fd ["_law_script"] (spF K 1 fn_law) := by
  have c := fx_of X G T
  have e := hfa.symm.trans (He.glo_ok X G (T.d.fact 23 (f := .glo "law") rfl))
  cases e
  obtain ⟨fd0, F⟩ := c.d_law
  refine ⟨fd0, fun s v => L2.FunD.bindsA (ps := ["_law_script"]) F (fun _ _ _ _ _ _ us hl => match us, hl with | [_], _ => rfl) s [v] rfl, fun base => ?_⟩
  obtain ⟨fd1, G1, _, F1⟩ := pick_law (P := P) (w := w) (base := base) c
  rw [fund_one F F1]
  exact G1
end P
namespace P
open PySem PySem.Spec PyProof.Rows L2 Z
def PM : Int := 2305843009213693951
/-- the pot's two numbers -/
def Pot (g s : Int) : Prop := 0 ≤ g ∧ 0 ≤ s ∧ s < PM
abbrev pc (g s : Int) : Cell := .lst [.int g, .int s]
theorem log_le {i : Int} {k : Nat} (h : i.natAbs < 2 ^ (k + 1)) : i.natAbs.log2 ≤ k := by
  by_cases z : i.natAbs = 0
  · rw [z]; exact Nat.zero_le _
  · exact Nat.le_of_lt_succ ((Nat.log2_lt z).mpr h)
def Sm (i : Int) : Prop := i.natAbs < 2 ^ 1000
theorem sm_of {i : Int} (h1 : -(2 ^ 200) ≤ i) (h2 : i ≤ 2 ^ 200) : Sm i := by
  have h : i.natAbs ≤ 2 ^ 200 := by omega
  exact Nat.lt_of_le_of_lt h (by decide)
theorem gMul_sm {i j : Int} {S : Sto} (h1 : Sm i) (h2 : Sm j) : gMul (.int i) (.int j) S = .ok (.int (i * j)) S := by
  have a : ∀ {i : Int}, Sm i → i.natAbs.log2 ≤ 999 := fun h => log_le h
  have b : i.natAbs.log2 + j.natAbs.log2 < 1000000 := by have := a h1; have := a h2; omega
  show (if i.natAbs.log2 + j.natAbs.log2 < 1000000 then Res.ok (.int (i * j)) S else .bad) = _
  rw [if_pos b]
theorem take_ok {S : Sto} {p : Nat} {g s u : Int} (hp : S[p]? = some (pc g s)) (P0 : Pot g s) (hu : 1 ≤ u) (hu2 : u < 2 ^ 64) :
    ∃ r g' s', 0 ≤ r ∧ r < u ∧ Pot g' s' ∧ fn__law_take [.ref p, .int u] S = .ok (.int r) (S.set p (pc g' s')) := by
  obtain ⟨h1, h2, h3⟩ := P0
  have hl : u.natAbs.log2 < 9000 := Nat.lt_of_le_of_lt (log_le (k := 63) (by omega)) (by decide)
  have lt : p < S.length := by
    obtain ⟨h, _⟩ := List.getElem?_eq_some_iff.mp hp
    exact h
  have hset : ∀ c, (S.set p c)[p]? = some c := fun c => by rw [List.getElem?_set_self lt]
  by_cases hg : 0 < g
  · refine ⟨g % u, g / u, s, Int.emod_nonneg _ (by omega), Int.emod_lt_of_pos _ (by omega), ⟨Int.ediv_nonneg h1 (by omega), h2, h3⟩, ?_⟩
    have e1 : g.fdiv u = g / u := Int.fdiv_eq_ediv_of_nonneg g (by omega)
    simp [fn__law_take, b__law_take, vV, vC, vBin, vUn, lNil, lCons, vTup, vLst, vEmp, vIf, vCall, vNot, vAnd, vOr, bOf, bAnd, bOr, bNot, bCmp, truth, sNil, sSeq, sSet, sEx, sRet, sIf, sPut, sSub, sPar, vFn, pick, Pat.put, Pat.puts, SRes.then, gAdd, Z.gSub, gMul_sm, gMod, gDiv, gPow, gNeg, gCmpI, gIx, gLen, gAbs, gInt, gMax2, gMin2, L2.atI, L2.ixN, seqOf, Z.listOf, runS, Res.bind, Res.bindL, Res.bindB, ResL.bind, ResL.bindL, ResB.bind, ResB.bindB, Res.s, ResB.s, List.replicate, hp, hg, hl, e1, show u ≠ 0 by omega, show 0 < u by omega]
  · have e1 : ∀ (i j : Int), 0 < j → i.fdiv j = i / j := fun i j h => Int.fdiv_eq_ediv_of_nonneg i (by omega)
    have b1 : Sm s := sm_of (by omega) (by unfold PM at h3; omega)
    have b2 : Sm 1181783497276652981 := sm_of (by decide) (by decide)
    let s1 := (s * 1181783497276652981 + 12345678910987) % 2305843009213693951
    have c1 : 0 ≤ s1 := Int.emod_nonneg _ (by decide)
    have c2 : s1 < 2305843009213693951 := Int.emod_lt_of_pos _ (by decide)
    have b3 : Sm (s1 / 65537) := sm_of (by omega) (by omega)
    have b4 : Sm (s1 % 65537 + 3) := sm_of (by omega) (by omega)
    have l1 : Nat.log2 65537 < 9000 := by decide
    have l2 : Nat.log2 97 < 9000 := by decide
    refine ⟨s1 / 65537 * (s1 % 65537 + 3) % 2305843009213693921 / 97 % u, g, s1, Int.emod_nonneg _ (by omega), Int.emod_lt_of_pos _ (by omega), ⟨h1, c1, c2⟩, ?_⟩
    simp [fn__law_take, b__law_take, vV, vC, vBin, vUn, lNil, lCons, vTup, vLst, vEmp, vIf, vCall, vNot, vAnd, vOr, bOf, bAnd, bOr, bNot, bCmp, truth, sNil, sSeq, sSet, sEx, sRet, sIf, sPut, sSub, sPar, vFn, pick, Pat.put, Pat.puts, SRes.then, gAdd, Z.gSub, gMul_sm, gMod, gDiv, gPow, gNeg, gCmpI, gIx, gLen, gAbs, gInt, gMax2, gMin2, L2.atI, L2.ixN, seqOf, Z.listOf, runS, Res.bind, Res.bindL, Res.bindB, ResL.bind, ResL.bindL, ResB.bind, ResB.bindB, Res.s, ResB.s, List.replicate, hp, hg, hl, e1, b1, b2, b3, b4, l1, l2, hset, s1, show u ≠ 0 by omega, show 0 < u by omega]
theorem big_text : PySem.intText? ((Str.ofString "1" : Str) ++ strRep (Str.ofString "0") 300) = some (10 ^ 300) := by decide +kernel
theorem big_len : ((Str.ofString "1" : Str) ++ strRep (Str.ofString "0") 300).length = 301 := by decide +kernel
end P
namespace P
open PySem PySem.Spec PyProof.Rows L2 Z
/-- the pot alone may change, cells may come -/
def Fr (p : Nat) (S S' : Sto) : Prop := ∃ g s T, Pot g s ∧ S' = S.set p (pc g s) ++ T
theorem Fr.len {p : Nat} {S S' : Sto} (h : Fr p S S') : S.length ≤ S'.length := by
  obtain ⟨g, s, T, _, rfl⟩ := h
  simp
theorem Fr.pot {p : Nat} {S S' : Sto} (h : Fr p S S') (lt : p < S.length) : ∃ g s, Pot g s ∧ S'[p]? = some (pc g s) := by
  obtain ⟨g, s, T, h, rfl⟩ := h
  exact ⟨g, s, h, by rw [List.getElem?_append_left (by simpa using lt), List.getElem?_set_self lt]⟩
theorem Fr.at {p : Nat} {S S' : Sto} (h : Fr p S S') {n : Nat} (lt : n < S.length) (ne : n ≠ p) : S'[n]? = S[n]? := by
  obtain ⟨g, s, T, h, rfl⟩ := h
  rw [List.getElem?_append_left (by simpa using lt), List.getElem?_set_ne (Ne.symm ne)]
theorem Fr.trans {p : Nat} {S S1 S2 : Sto} (h : Fr p S S1) (lt : p < S.length) (h2 : Fr p S1 S2) : Fr p S S2 := by
  obtain ⟨g, s, T, h, rfl⟩ := h
  obtain ⟨g2, s2, T2, h2, rfl⟩ := h2
  refine ⟨g2, s2, T ++ T2, h2, ?_⟩
  rw [List.set_append_left _ _ (by simpa using lt), List.set_set, List.append_assoc]
theorem Fr.grow {p : Nat} {S S1 : Sto} (h : Fr p S S1) (T2 : Sto) : Fr p S (S1 ++ T2) := by
  obtain ⟨g, s, T, h, rfl⟩ := h
  exact ⟨g, s, T ++ T2, h, by rw [List.append_assoc]⟩
theorem Fr.self {p : Nat} {S : Sto} {g s : Int} (hp : S[p]? = some (pc g s)) (P0 : Pot g s) : Fr p S S := by
  obtain ⟨h, e⟩ := List.getElem?_eq_some_iff.mp hp
  refine ⟨g, s, [], P0, ?_⟩
  rw [← e, List.set_getElem_self, List.append_nil]
theorem Fr.new {p : Nat} {S : Sto} {g s : Int} (hp : S[p]? = some (pc g s)) (P0 : Pot g s) (T : Sto) : Fr p S (S ++ T) := (Fr.self hp P0).grow T
theorem lt_of {S : Sto} {p : Nat} {c : Cell} (hp : S[p]? = some c) : p < S.length := (List.getElem?_eq_some_iff.mp hp).1
/-- take, as a step -/
theorem take_fr {S : Sto} {p : Nat} {g s u : Int} (hp : S[p]? = some (pc g s)) (P0 : Pot g s) (hu : 1 ≤ u) (hu2 : u < 2 ^ 64) :
    ∃ r S', 0 ≤ r ∧ r < u ∧ Fr p S S' ∧ S'.length = S.length ∧ fn__law_take [.ref p, .int u] S = .ok (.int r) S' := by
  obtain ⟨r, g', s', h1, h2, h3, h4⟩ := take_ok hp P0 hu hu2
  exact ⟨r, _, h1, h2, ⟨g', s', [], h3, (List.append_nil _).symm⟩, by simp, h4⟩
theorem sm_mod (c : Int) : Sm (c % 10 ^ 300) := by
  have h1 : 0 ≤ c % 10 ^ 300 := Int.emod_nonneg _ (by decide +kernel)
  have h2 : c % 10 ^ 300 < 10 ^ 300 := Int.emod_lt_of_pos _ (by decide +kernel)
  have h3 : (10 : Int) ^ 300 = ((10 ^ 300 : Nat) : Int) := by decide +kernel
  have h4 : (10 : Nat) ^ 300 < 2 ^ 1000 := by decide +kernel
  unfold Sm
  omega
theorem gInt_str {a : Str} {n : Int} {S : Sto} (h : PySem.intText? a = some n) (hl : a.length ≤ 640) : gInt [.str a] S = .ok (.int n) S := by
  simp [gInt, h, hl]
theorem call_int {f : FE} {E : Ev} {S : Sto} {a : Str} {n : Int} (h : f E S = .ok (.str a) S) (h2 : gInt [.str a] S = .ok (.int n) S) : vCall gInt (lCons f lNil) E S = .ok (.int n) S := by
  simp [vCall, lCons, lNil, h, h2]
theorem bin_cc {g1 g2 : D → D → Sto → Res} {a b c : D} {E : Ev} {S : Sto} {r : Res} (h : (g2 b c S).bind (fun y S2 => g1 a y S2) = r) : vBin g1 (vC a) (vBin g2 (vC b) (vC c)) E S = r := by
  simpa [vBin, vC] using h
def cellOf (ns : List Int) (k : Int) : Int := if k < (ns.length : Int) then ns.getD k.toNat 0 else 5 * k + ns.length
noncomputable def potB (f : FE) : FS := sSeq (sSet 2 (vBin gAdd (vBin gMul (vC (.int 5)) (vV 1)) (vCall gLen (lCons (vV 0) (lNil))))) (sSeq (sIf (bCmp gLt (vV 1) (vCall gLen (lCons (vV 0) (lNil)))) (sSeq (sSet 2 (vBin gIx (vV 0) (vV 1))) (sNil)) (sNil)) (sSeq (sSet 3 (vBin gMul (vBin gMod (vCall gAbs (lCons (vV 2) (lNil))) f) (vCall gInt (lCons (vBin gGe (vCall gAbs (lCons (vV 2) (lNil))) (vBin gPow (vC (.int 10)) (vC (.int 18)))) (lNil))))) (sSeq (sRet (vLst (lCons (vV 3) (lCons (vBin gMod (vBin gMul (vBin gAdd (vBin gAdd (vBin gMod (vV 2) (vC (.int 2305843009213693951))) (vBin gMul (vBin gMul (vC (.int 6959)) (vV 1)) (vV 1))) (vC (.int 13))) (vC (.int 48271))) (vC (.int 2305843009213693951))) (lNil))))) (sNil))))
noncomputable def potF : FE := vCall gInt (lCons (vBin gAdd (vC (.str (Str.ofString "1"))) (vBin gMul (vC (.str (Str.ofString "0"))) (vC (.int 300)))) lNil)
theorem pot_is : fn__law_pot = runS 4 (potB potF) := rfl
theorem potF_ok (E : Ev) (S : Sto) : potF E S = .ok (.int (10 ^ 300)) S := by
  have big : Res.bind (gMul (.str (Str.ofString "0")) (.int 300) (S : Sto)) (fun y S2 => gAdd (.str (Str.ofString "1")) y S2) = .ok (.str ((Str.ofString "1" : Str) ++ strRep (Str.ofString "0") 300)) S := by
    have l1 : (Str.ofString "0").length = 1 := by decide +kernel
    have l2 : (Str.ofString "1").length = 1 := by decide +kernel
    have l3 : (strRep (Str.ofString "0") 300).length = 300 := by decide +kernel
    simp [gMul, gAdd, Res.bind, l1, l2, l3, sizeLine]
  exact call_int (bin_cc big) (gInt_str big_text (by rw [big_len]; decide))
theorem pot_gen {f : FE} {S : Sto} {ns : List Int} {k T : Int} (hf : ∀ E, f E S = .ok (.int T) S) (hT : 0 < T) (sT : ∀ c : Int, Sm (c % T)) (h0 : 0 ≤ k) (h1 : k < 4) :
    ∃ g s, Pot g s ∧ runS 4 (potB f) [.fl (ns.map .int), .int k] S = .ok (.ref S.length) (S ++ [pc g s]) := by
  obtain ⟨c, hc⟩ : ∃ c, c = cellOf ns k := ⟨_, rfl⟩
  obtain ⟨a, ha⟩ : ∃ a, a = (if c < 0 then -c else c) := ⟨_, rfl⟩
  have c1 : 0 ≤ c % 2305843009213693951 := Int.emod_nonneg _ (by decide)
  have c2 : c % 2305843009213693951 < 2305843009213693951 := Int.emod_lt_of_pos _ (by decide)
  have hk : k = 0 ∨ k = 1 ∨ k = 2 ∨ k = 3 := by omega
  have b1 : Sm 5 := sm_of (by decide) (by decide)
  have b2 : Sm k := sm_of (by omega) (by omega)
  have b3 : Sm 6959 := sm_of (by decide) (by decide)
  have b4 : Sm (6959 * k) := sm_of (by omega) (by omega)
  have b5 : Sm (c % 2305843009213693951 + 6959 * k * k + 13) := by
    rcases hk with rfl | rfl | rfl | rfl <;> exact sm_of (by omega) (by omega)
  have b6 : Sm 48271 := sm_of (by decide) (by decide)
  have b8 : Sm 1 := sm_of (by decide) (by decide)
  have b9 : Sm 0 := sm_of (by decide) (by decide)
  have nn : 0 ≤ a % T := Int.emod_nonneg _ (by omega)
  have pw : gPow (.int 10) (.int 18) S = .ok (.int (10 ^ 18)) S := rfl
  have e2 : sSeq (sSet 2 (vBin gAdd (vBin gMul (vC (.int 5)) (vV 1)) (vCall gLen (lCons (vV 0) (lNil))))) (sIf (bCmp gLt (vV 1) (vCall gLen (lCons (vV 0) (lNil)))) (sSeq (sSet 2 (vBin gIx (vV 0) (vV 1))) (sNil)) (sNil)) [some (.fl (ns.map .int)), some (.int k), none, none] S = .nx [some (.fl (ns.map .int)), some (.int k), some (.int c), none] S := by
    by_cases hl : k < (ns.length : Int)
    · have hk2 : k.toNat < ns.length := by omega
      have hc : c = ns[k.toNat] := by
        rw [hc]
        unfold cellOf
        rw [if_pos hl, List.getD_eq_getElem?_getD, List.getElem?_eq_getElem hk2]
        rfl
      have hat : L2.atI (ns.map D.int) k = some (.int c) := by
        unfold L2.atI L2.ixN
        rw [if_pos h0, if_pos (by simpa using hl)]
        simp [hk2, hc]
      simp [vV, vC, vBin, vUn, lNil, lCons, vTup, vLst, vEmp, vIf, vCall, vNot, vAnd, vOr, bOf, bAnd, bOr, bNot, bCmp, truth, sNil, sSeq, sSet, sEx, sRet, sIf, sPut, sSub, sPar, vFn, pick, Pat.put, Pat.puts, SRes.then, gAdd, Z.gSub, gMul_sm, gMod, gDiv, gPow, gNeg, gCmpI, gIx, gLen, gAbs, gInt, gMax2, gMin2, seqOf, Z.listOf, runS, Res.bind, Res.bindL, Res.bindB, ResL.bind, ResL.bindL, ResB.bind, ResB.bindB, Res.s, ResB.s, List.replicate, hl, hat, b1, b2]
    · have hc : c = 5 * k + ns.length := by
        rw [hc]
        unfold cellOf
        rw [if_neg hl]
      simp [vV, vC, vBin, vUn, lNil, lCons, vTup, vLst, vEmp, vIf, vCall, vNot, vAnd, vOr, bOf, bAnd, bOr, bNot, bCmp, truth, sNil, sSeq, sSet, sEx, sRet, sIf, sPut, sSub, sPar, vFn, pick, Pat.put, Pat.puts, SRes.then, gAdd, Z.gSub, gMul_sm, gMod, gDiv, gPow, gNeg, gCmpI, gIx, gLen, gAbs, gInt, gMax2, gMin2, seqOf, Z.listOf, runS, Res.bind, Res.bindL, Res.bindB, ResL.bind, ResL.bindL, ResB.bind, ResB.bindB, Res.s, ResB.s, List.replicate, hl, hc, b1, b2]
  have run3 : ∀ (A B C : FS) E E1 S S1, sSeq A B E S = .nx E1 S1 → sSeq A (sSeq B C) E S = C E1 S1 := fun A B C E E1 S S1 h => by
    unfold sSeq at h ⊢
    cases e : A E S with
    | nx E2 S2 => rw [e] at h; simp only [SRes.then] at h ⊢; rw [h]
    | _ => rw [e] at h; cases h
  show ∃ g s, Pot g s ∧ (match potB f [some (.fl (ns.map .int)), some (.int k), none, none] S with
    | .nx _ S1 => Res.ok .non S1
    | .ret d S1 => .ok d S1
    | .exc c fs _ S1 => .exc c fs S1
    | _ => .bad) = _
  unfold potB
  rw [run3 _ _ _ _ _ _ _ e2]
  have b10 : ∀ (p : Prop) [Decidable p], Sm (if p then 1 else 0) := fun p _ => by split <;> assumption
  by_cases hb : (10 : Int) ^ 18 ≤ a
  · refine ⟨a % T * 1, (c % 2305843009213693951 + 6959 * k * k + 13) * 48271 % 2305843009213693951, ⟨by omega, Int.emod_nonneg _ (by decide), Int.emod_lt_of_pos _ (by decide)⟩, ?_⟩
    simp [vV, vC, vBin, vUn, lNil, lCons, vTup, vLst, vEmp, vIf, vCall, vNot, vAnd, vOr, bOf, bAnd, bOr, bNot, bCmp, truth, sNil, sSeq, sSet, sEx, sRet, sIf, sPut, sSub, sPar, vFn, pick, Pat.put, Pat.puts, SRes.then, gAdd, Z.gSub, gMul_sm, gMod, gDiv, gPow, gNeg, gCmpI, gIx, gLen, gAbs, gInt, gMax2, gMin2, seqOf, Z.listOf, runS, Res.bind, Res.bindL, Res.bindB, ResL.bind, ResL.bindL, ResB.bind, ResB.bindB, Res.s, ResB.s, List.replicate, hf, hT, sT, b1, b2, b3, b4, b5, b6, b8, b9, b10, ← ha, hb]
    rw [if_pos (by omega)]
    omega
  · refine ⟨a % T * 0, (c % 2305843009213693951 + 6959 * k * k + 13) * 48271 % 2305843009213693951, ⟨by omega, Int.emod_nonneg _ (by decide), Int.emod_lt_of_pos _ (by decide)⟩, ?_⟩
    simp [vV, vC, vBin, vUn, lNil, lCons, vTup, vLst, vEmp, vIf, vCall, vNot, vAnd, vOr, bOf, bAnd, bOr, bNot, bCmp, truth, sNil, sSeq, sSet, sEx, sRet, sIf, sPut, sSub, sPar, vFn, pick, Pat.put, Pat.puts, SRes.then, gAdd, Z.gSub, gMul_sm, gMod, gDiv, gPow, gNeg, gCmpI, gIx, gLen, gAbs, gInt, gMax2, gMin2, seqOf, Z.listOf, runS, Res.bind, Res.bindL, Res.bindB, ResL.bind, ResL.bindL, ResB.bind, ResB.bindB, Res.s, ResB.s, List.replicate, hf, hT, sT, b1, b2, b3, b4, b5, b6, b8, b9, b10, ← ha, hb]
    rw [if_neg (by omega)]
    omega
theorem pot_ok (S : Sto) (ns : List Int) (k : Int) (h0 : 0 ≤ k) (h1 : k < 4) : ∃ g s, Pot g s ∧ fn__law_pot [.fl (ns.map .int), .int k] S = .ok (.ref S.length) (S ++ [pc g s]) := by
  rw [pot_is]
  exact pot_gen (fun E => potF_ok E S) (by decide +kernel) sm_mod h0 h1
end P
namespace P
open PySem PySem.Spec PyProof.Rows L2 Z
def gg (t l : Int) : Int := (Nat.gcd t.natAbs l.natAbs : Nat)
def nn (t l : Int) : Int := if l < 0 then -(t / gg t l) else t / gg t l
def dd (t l : Int) : Int := if l < 0 then -(l / gg t l) else l / gg t l
theorem gg_pos {t l : Int} (h : l ≠ 0) : 0 < gg t l := by
  have : 0 < Nat.gcd t.natAbs l.natAbs := Nat.gcd_pos_of_pos_right _ (Int.natAbs_pos.mpr h)
  unfold gg
  omega
theorem gg_t (t l : Int) : gg t l * (t / gg t l) = t := Int.mul_ediv_cancel' (Int.gcd_dvd_left (a := t) (b := l))
theorem gg_l (t l : Int) : gg t l * (l / gg t l) = l := Int.mul_ediv_cancel' (Int.gcd_dvd_right (a := t) (b := l))
theorem gg_le {t l : Int} (h : l ≠ 0) : gg t l ≤ l.natAbs := by
  have : Nat.gcd t.natAbs l.natAbs ≤ l.natAbs := Nat.gcd_le_right _ (Int.natAbs_pos.mpr h)
  unfold gg
  omega
theorem fdiv_of {g a x : Int} (h : g ≠ 0) (e : x = g * a) : x.fdiv g = a := by
  rw [e, Int.mul_fdiv_cancel_left _ h]
theorem log_gg {t l : Int} (h : l ≠ 0) (hl : l.natAbs < 2 ^ 8000) : (gg t l).natAbs.log2 < 9000 := by
  have h1 := gg_le (t := t) h
  have h2 := gg_pos (t := t) h
  have h3 : (gg t l).natAbs ≤ l.natAbs := by omega
  exact Nat.lt_of_le_of_lt (log_le (k := 7999) (Nat.lt_of_le_of_lt h3 hl)) (by decide)
theorem eq_ii {i j : Int} {S : Sto} : gEq (.int i) (.int j) S = .ok (.bl (i == j)) S := by
  simp [gEq, gEqD, toPD, SeqAt.shaped, PyData.canLay0, PyData.depth, PyData.eqv]
theorem ne_ii {i j : Int} {S : Sto} : gNe (.int i) (.int j) S = .ok (.bl (!(i == j))) S := by
  simp [gNe, gNeD, toPD, SeqAt.shaped, PyData.canLay0, PyData.depth, PyData.eqv]
theorem eq_tt {a b c d : Int} {S : Sto} : gEq (.tup [.int a, .int b]) (.tup [.int c, .int d]) S = .ok (.bl (a == c && b == d)) S := by
  simp [gEq, gEqD, toPD, optAll, SeqAt.shaped, PyData.canLay0, PyData.canLayAll0, PyData.depth, PyData.depthAll, PyData.eqv, PyData.eqvAll]
theorem ne_tt {a b c d : Int} {S : Sto} : gNe (.tup [.int a, .int b]) (.tup [.int c, .int d]) S = .ok (.bl (!(a == c && b == d))) S := by
  simp [gNe, gNeD, toPD, optAll, SeqAt.shaped, PyData.canLay0, PyData.canLayAll0, PyData.depth, PyData.depthAll, PyData.eqv, PyData.eqvAll]
theorem part_ok {t l : Int} (S : Sto) (h : l ≠ 0) (hl : l.natAbs < 2 ^ 8000) : fn_part [.int t, .int l] S = .ok (.tup [.int (nn t l), .int (dd t l)]) S := by
  have h2 := gg_pos (t := t) h
  have h3 := log_gg (t := t) h hl
  have h4 : (-(gg t l)).natAbs.log2 < 9000 := by rw [Int.natAbs_neg]; exact h3
  have e0 : ((Nat.gcd t.natAbs l.natAbs : Nat) : Int) = gg t l := rfl
  by_cases hn : l < 0
  · have e1 : t.fdiv (-(gg t l)) = nn t l := fdiv_of (by omega) (by unfold nn; rw [if_pos hn, Int.neg_mul_neg, gg_t])
    have e2 : l.fdiv (-(gg t l)) = dd t l := fdiv_of (by omega) (by unfold dd; rw [if_pos hn, Int.neg_mul_neg, gg_l])
    simp [fn_part, b_part, vV, vC, vBin, vUn, lNil, lCons, vTup, vLst, vEmp, vIf, vCall, vNot, vAnd, vOr, bOf, bAnd, bOr, bNot, bCmp, truth, sNil, sSeq, sSet, sEx, sRet, sIf, sPut, sSub, sPar, vFn, pick, Pat.put, Pat.puts, SRes.then, gAdd, Z.gSub, gMul_sm, gMod, gDiv, gPow, gNeg, gCmpI, gIx, gLen, gAbs, gInt, gMax2, gMin2, L2.atI, L2.ixN, seqOf, Z.listOf, runS, Res.bind, Res.bindL, Res.bindB, ResL.bind, ResL.bindL, ResB.bind, ResB.bindB, Res.s, ResB.s, List.replicate, eq_ii, gGcd, e0, h, hn, h3, h4, e1, e2, show gg t l ≠ 0 by omega]
  · have e1 : t.fdiv (gg t l) = nn t l := fdiv_of (by omega) (by unfold nn; rw [if_neg hn, gg_t])
    have e2 : l.fdiv (gg t l) = dd t l := fdiv_of (by omega) (by unfold dd; rw [if_neg hn, gg_l])
    simp [fn_part, b_part, vV, vC, vBin, vUn, lNil, lCons, vTup, vLst, vEmp, vIf, vCall, vNot, vAnd, vOr, bOf, bAnd, bOr, bNot, bCmp, truth, sNil, sSeq, sSet, sEx, sRet, sIf, sPut, sSub, sPar, vFn, pick, Pat.put, Pat.puts, SRes.then, gAdd, Z.gSub, gMul_sm, gMod, gDiv, gPow, gNeg, gCmpI, gIx, gLen, gAbs, gInt, gMax2, gMin2, L2.atI, L2.ixN, seqOf, Z.listOf, runS, Res.bind, Res.bindL, Res.bindB, ResL.bind, ResL.bindL, ResB.bind, ResB.bindB, Res.s, ResB.s, List.replicate, eq_ii, gGcd, e0, h, hn, h3, h4, e1, e2, show gg t l ≠ 0 by omega]
theorem wh_ok (T L : D) (S : Sto) : ∀ (b a : Nat), ∃ n, whileS (bCmp gGt (vV 3) (vC (.int 0))) (sSeq (sPar 2 3 (lCons (vV 3) (lCons (vBin gMod (vV 2) (vV 3)) (lNil)))) (sNil)) n [some T, some L, some (.int a), some (.int b), none] S
    = .nx [some T, some L, some (.int (Nat.gcd a b : Nat)), some (.int 0), none] S := by
  intro b
  induction b using Nat.strongRecOn with
  | _ b ih =>
    intro a
    by_cases hb : b = 0
    · refine ⟨1, ?_⟩
      subst hb
      simp [whileS, vV, vC, vBin, vUn, lNil, lCons, vTup, vLst, vEmp, vIf, vCall, vNot, vAnd, vOr, bOf, bAnd, bOr, bNot, bCmp, truth, sNil, sSeq, sSet, sEx, sRet, sIf, sPut, sSub, sPar, vFn, pick, Pat.put, Pat.puts, SRes.then, gAdd, Z.gSub, gMul_sm, gMod, gDiv, gPow, gNeg, gCmpI, gIx, gLen, gAbs, gInt, gMax2, gMin2, L2.atI, L2.ixN, seqOf, Z.listOf, runS, Res.bind, Res.bindL, Res.bindB, ResL.bind, ResL.bindL, ResB.bind, ResB.bindB, Res.s, ResB.s, List.replicate]
    · have hlt : a % b < b := Nat.mod_lt _ (by omega)
      obtain ⟨n, hn⟩ := ih (a % b) hlt b
      refine ⟨n + 1, ?_⟩
      have e : Nat.gcd b (a % b) = Nat.gcd a b := by rw [Nat.gcd_comm b, ← Nat.gcd_rec, Nat.gcd_comm]
      rw [e] at hn
      rw [← hn]
      simp [whileS, vV, vC, vBin, vUn, lNil, lCons, vTup, vLst, vEmp, vIf, vCall, vNot, vAnd, vOr, bOf, bAnd, bOr, bNot, bCmp, truth, sNil, sSeq, sSet, sEx, sRet, sIf, sPut, sSub, sPar, vFn, pick, Pat.put, Pat.puts, SRes.then, gAdd, Z.gSub, gMul_sm, gMod, gDiv, gPow, gNeg, gCmpI, gIx, gLen, gAbs, gInt, gMax2, gMin2, L2.atI, L2.ixN, seqOf, Z.listOf, runS, Res.bind, Res.bindL, Res.bindB, ResL.bind, ResL.bindL, ResB.bind, ResB.bindB, Res.s, ResB.s, List.replicate, show 0 < b by omega]
theorem reduced_ok {t l : Int} (S : Sto) (h : l ≠ 0) (s3 : Sm t) (s4 : Sm l) : fn__law_reduced [.int t, .int l] S = .ok (.tup [.int (nn t l), .int (dd t l)]) S := by
  have h2 := gg_pos (t := t) h
  have h3 := log_gg (t := t) h (Nat.lt_trans s4 (Nat.pow_lt_pow_right (by decide) (by decide)))
  obtain ⟨n, hn⟩ := wh_ok (.int t) (.int l) S l.natAbs t.natAbs
  have e0 : ((Nat.gcd t.natAbs l.natAbs : Nat) : Int) = gg t l := rfl
  have hw : sWhile (bCmp gGt (vV 3) (vC (.int 0))) (sSeq (sPar 2 3 (lCons (vV 3) (lCons (vBin gMod (vV 2) (vV 3)) (lNil)))) (sNil)) [some (.int t), some (.int l), some (.int t.natAbs), some (.int l.natAbs), none] S = .nx [some (.int t), some (.int l), some (.int (gg t l)), some (.int 0), none] S := by
    rw [sWhile_eq (n := n) (by rw [hn]; exact fun q => by cases q), hn]
    rfl
  have a1 : ∀ x : Int, (if x < 0 then -x else x) = (x.natAbs : Int) := fun x => by split <;> omega
  have s1 : Sm 1 := sm_of (by decide) (by decide)
  have s2 : Sm (-1) := sm_of (by decide) (by decide)
  by_cases hn : l < 0
  · have e1 : (-t).fdiv (gg t l) = nn t l := fdiv_of (by omega) (by unfold nn; rw [if_pos hn, Int.mul_neg, gg_t])
    have e2 : (-l).fdiv (gg t l) = dd t l := fdiv_of (by omega) (by unfold dd; rw [if_pos hn, Int.mul_neg, gg_l])
    simp [fn__law_reduced, b__law_reduced, vV, vC, vBin, vUn, lNil, lCons, vTup, vLst, vEmp, vIf, vCall, vNot, vAnd, vOr, bOf, bAnd, bOr, bNot, bCmp, truth, sNil, sSeq, sSet, sEx, sRet, sIf, sPut, sSub, sPar, vFn, pick, Pat.put, Pat.puts, SRes.then, gAdd, Z.gSub, gMul_sm, gMod, gDiv, gPow, gNeg, gCmpI, gIx, gLen, gAbs, gInt, gMax2, gMin2, L2.atI, L2.ixN, seqOf, Z.listOf, runS, Res.bind, Res.bindL, Res.bindB, ResL.bind, ResL.bindL, ResB.bind, ResB.bindB, Res.s, ResB.s, List.replicate, a1, hw, h3, s1, s2, s3, s4, show ¬ 0 < l by omega, e1, e2, show gg t l ≠ 0 by omega]
  · have e1 : t.fdiv (gg t l) = nn t l := fdiv_of (by omega) (by unfold nn; rw [if_neg hn, gg_t])
    have e2 : l.fdiv (gg t l) = dd t l := fdiv_of (by omega) (by unfold dd; rw [if_neg hn, gg_l])
    simp [fn__law_reduced, b__law_reduced, vV, vC, vBin, vUn, lNil, lCons, vTup, vLst, vEmp, vIf, vCall, vNot, vAnd, vOr, bOf, bAnd, bOr, bNot, bCmp, truth, sNil, sSeq, sSet, sEx, sRet, sIf, sPut, sSub, sPar, vFn, pick, Pat.put, Pat.puts, SRes.then, gAdd, Z.gSub, gMul_sm, gMod, gDiv, gPow, gNeg, gCmpI, gIx, gLen, gAbs, gInt, gMax2, gMin2, L2.atI, L2.ixN, seqOf, Z.listOf, runS, Res.bind, Res.bindL, Res.bindB, ResL.bind, ResL.bindL, ResB.bind, ResB.bindB, Res.s, ResB.s, List.replicate, a1, hw, h3, s1, s2, s3, s4, show 0 < l by omega, e1, e2, show gg t l ≠ 0 by omega]
theorem nn_one (t : Int) : nn t 1 = t := by
  unfold nn gg
  simp
theorem dd_one (t : Int) : dd t 1 = 1 := by
  unfold dd gg
  simp
theorem nn_neg {t l : Int} (h : l ≠ 0) : nn (-t) (-l) = nn t l := by
  have e : gg (-t) (-l) = gg t l := by unfold gg; rw [Int.natAbs_neg, Int.natAbs_neg]
  have d1 : gg t l ∣ t := ⟨_, (gg_t t l).symm⟩
  unfold nn
  rw [e, Int.neg_ediv_of_dvd d1]
  by_cases q : l < 0
  · rw [if_pos q, if_neg (by omega)]
  · rw [if_neg q, if_pos (by omega), Int.neg_neg]
theorem dd_neg {t l : Int} (h : l ≠ 0) : dd (-t) (-l) = dd t l := by
  have e : gg (-t) (-l) = gg t l := by unfold gg; rw [Int.natAbs_neg, Int.natAbs_neg]
  have d1 : gg t l ∣ l := ⟨_, (gg_l t l).symm⟩
  unfold dd
  rw [e, Int.neg_ediv_of_dvd d1]
  by_cases q : l < 0
  · rw [if_pos q, if_neg (by omega)]
  · rw [if_neg q, if_pos (by omega), Int.neg_neg]
theorem abs_div {g x : Int} (h : 0 < g) : (x / g).natAbs ≤ x.natAbs := by
  have := Int.natAbs_ediv_le_natAbs x g
  exact this
theorem nn_le {t l : Int} (h : l ≠ 0) : (nn t l).natAbs ≤ t.natAbs := by
  have := abs_div (x := t) (gg_pos (t := t) h)
  unfold nn
  split
  · rw [Int.natAbs_neg]; exact this
  · exact this
theorem dd_le {t l : Int} (h : l ≠ 0) : (dd t l).natAbs ≤ l.natAbs := by
  have := abs_div (x := l) (gg_pos (t := t) h)
  unfold dd
  split
  · rw [Int.natAbs_neg]; exact this
  · exact this
theorem dd_pos {t l : Int} (h : l ≠ 0) : 1 ≤ dd t l := by
  have h1 := gg_pos (t := t) h
  have h2 := gg_l t l
  unfold dd
  split
  · have : l / gg t l < 0 := by
      apply Int.not_le.mp
      intro q
      have := Int.mul_nonneg (Int.le_of_lt h1) q
      omega
    omega
  · have : 0 < l / gg t l := by
      apply Int.not_le.mp
      intro q
      have := Int.mul_nonpos_of_nonneg_of_nonpos (Int.le_of_lt h1) q
      omega
    omega
theorem gg_nf {t l : Int} (h : l ≠ 0) : gg (nn t l) (dd t l) = 1 := by
  have hp : 0 < Int.gcd t l := Int.gcd_pos_of_ne_zero_right _ h
  have e : Int.gcd (t / gg t l) (l / gg t l) = 1 := Int.gcd_ediv_gcd_ediv_gcd hp
  unfold nn dd
  split
  · have e2 : Int.gcd (-(t / gg t l)) (-(l / gg t l)) = 1 := by rw [Int.gcd_neg, Int.neg_gcd, e]
    show ((Int.gcd (-(t / gg t l)) (-(l / gg t l)) : Nat) : Int) = 1
    rw [e2]
    rfl
  · show ((Int.gcd (t / gg t l) (l / gg t l) : Nat) : Int) = 1
    rw [e]
    rfl
end P
namespace P
open PySem PySem.Spec PyProof.Rows L2 Z
theorem get_new (S : Sto) (c : Cell) : (S ++ [c])[S.length]? = some c := by simp
theorem set_new (S : Sto) (c c2 : Cell) : (S ++ [c]).set S.length c2 = S ++ [c2] := by simp
theorem seq_ret {c : FB} {f : FE} {rest g : FS} {E : Ev} {S S1 S2 : Sto} {d : D} (h : c E S = .ok true S1) (h2 : f E S1 = .ok d S2) : sSeq (sIf c (sSeq (sRet f) sNil) g) rest E S = .ret d S2 := by
  simp [sSeq, sIf, sRet, h, h2, Res.s, ResB.s, SRes.then]
theorem seq_no {c : FB} {g rest : FS} {E : Ev} {S S1 : Sto} (h : c E S = .ok false S1) : sSeq (sIf c g sNil) rest E S = rest E S1 := by
  simp [sSeq, sIf, sNil, h, Res.s, ResB.s, SRes.then]
theorem seq_set {i : Nat} {f : FE} {rest : FS} {E : Ev} {S S1 : Sto} {d : D} (h : f E S = .ok d S1) : sSeq (sSet i f) rest E S = rest (E.set i (some d)) S1 := by
  simp [sSeq, sSet, h, Res.s, SRes.then]
theorem one_ret {f : FE} {E : Ev} {S S1 : Sto} {d : D} (h : f E S = .ok d S1) : sSeq (sRet f) sNil E S = .ret d S1 := by
  simp [sSeq, sRet, h, Res.s, SRes.then]
theorem run_ret {L : Nat} {b : FS} {ds : List D} {S S1 : Sto} {d : D} (h : b (ds.map some ++ List.replicate (L - ds.length) none) S = .ret d S1) : runS L b ds S = .ok d S1 := by
  unfold runS
  rw [h]
theorem or_ok {f g : FB} {E : Ev} {S S1 S2 : Sto} {b : Bool} (h : f E S = .ok false S1) (h2 : g E S1 = .ok b S2) : bOr f g E S = .ok b S2 := by
  simp [bOr, h, h2, ResB.bindB]
theorem or_yes {f g : FB} {E : Ev} {S S1 : Sto} (h : f E S = .ok true S1) : bOr f g E S = .ok true S1 := by
  simp [bOr, h, ResB.bindB]
theorem not_of {f : FE} {E : Ev} {S S1 : Sto} {b : Bool} (h : f E S = .ok (.bl b) S1) : bNot (bOf f) E S = .ok (!b) S1 := by
  simp [bNot, bOf, h, ResB.bindB, Res.bindB, truth]
section
variable {E : Ev} {S S1 S2 S3 : Sto} {f f1 f2 : FE} {x y d : D} {b : Bool}
theorem cmp_ok {g : D → D → Sto → Res} (h1 : f1 E S = .ok x S1) (h2 : f2 E S1 = .ok y S2) (h3 : g x y S2 = .ok (.bl b) S3) : bCmp g f1 f2 E S = .ok b S3 := by
  simp [bCmp, h1, h2, h3, Res.bindB]
theorem call1 {g : List D → Sto → Res} {r : Res} (h : f E S = .ok d S1) (h2 : g [d] S1 = r) : vCall g (lCons f lNil) E S = r := by
  simp [vCall, lCons, lNil, h, h2, Res.bindL, ResL.bind, ResL.bindL]
theorem call2 {g : List D → Sto → Res} {r : Res} (h : f1 E S = .ok x S1) (h' : f2 E S1 = .ok y S2) (h2 : g [x, y] S2 = r) : vCall g (lCons f1 (lCons f2 lNil)) E S = r := by
  simp [vCall, lCons, lNil, h, h', h2, Res.bindL, ResL.bind, ResL.bindL]
theorem fn1 {F : List D → Sto → Res} {r : Res} (h : F [d] S = r) : vFn 1 [0] [] F [d] S = r := by
  rw [← h]
  rfl
theorem fn2 {F : List D → Sto → Res} {dfl : List D} {r : Res} (h : F [x, y] S = r) : vFn 2 [0, 1] dfl F [x, y] S = r := by
  rw [← h]
  rfl
theorem lst1 (h : f E S = .ok d S1) : vLst (lCons f lNil) E S = .ok (.ref S1.length) (S1 ++ [.lst [d]]) := by
  simp [vLst, lCons, lNil, h, Res.bindL, ResL.bind, ResL.bindL]
theorem lst2 (h : f1 E S = .ok x S1) (h' : f2 E S1 = .ok y S2) : vLst (lCons f1 (lCons f2 lNil)) E S = .ok (.ref S2.length) (S2 ++ [.lst [x, y]]) := by
  simp [vLst, lCons, lNil, h, h', Res.bindL, ResL.bind, ResL.bindL]
theorem mul_lst {n : Nat} {xs : List D} {k : Int} (h : S[n]? = some (.lst xs)) (h0 : 0 ≤ k) (h1 : k ≤ 1000) (h2 : xs.length ≤ 1000) : gMul (.ref n) (.int k) S = .ok (.ref S.length) (S ++ [.lst (List.replicate k.toNat xs).flatten]) := by
  simp [gMul, h, h0, h1, h2]
theorem bin_ok {g : D → D → Sto → Res} {r : Res} (h1 : f1 E S = .ok x S1) (h2 : f2 E S1 = .ok y S2) (h3 : g x y S2 = r) : vBin g f1 f2 E S = r := by
  simp [vBin, h1, h2, h3, Res.bind]
theorem same_str {z : Str} : gNe (.str z) (.str z) S = .ok (.bl false) S := by
  simp [gNe]
theorem par_ok {i j : Nat} (h1 : f1 E S = .ok x S1) (h2 : f2 E S1 = .ok y S2) {R : FS} : sSeq (sPar i j (lCons f1 (lCons f2 lNil))) R E S = R ((E.set i (some x)).set j (some y)) S2 := by
  simp [sSeq, sPar, lCons, lNil, h1, h2, Res.bindL, ResL.bindL, SRes.then]
end
theorem last_at (S U : Sto) (c : Cell) : (S ++ U ++ [c])[(S ++ U).length]? = some c := by simp
theorem seq_for {it : FI} {p : Pat} {b R : FS} {E E1 : Ev} {S S1 S2 : Sto} {ds : List D} {src : Option Nat} (h : it E S = .ok ds src S1) (h2 : forS p b src ds ds E S1 = .nx E1 S2) : sSeq (sFor it p b) R E S = R E1 S2 := by
  simp [sSeq, sFor, h, h2, SRes.then]
theorem lst3 {f1 f2 f3 : FE} {x y z : D} {E : Ev} {S S1 S2 S3 : Sto} (h : f1 E S = .ok x S1) (h' : f2 E S1 = .ok y S2) (h'' : f3 E S2 = .ok z S3) : vLst (lCons f1 (lCons f2 (lCons f3 lNil))) E S = .ok (.ref S3.length) (S3 ++ [.lst [x, y, z]]) := by
  simp [vLst, lCons, lNil, h, h', h'', Res.bindL, ResL.bind, ResL.bindL]
theorem and_ok {f1 f2 : FE} {E : Ev} {S S1 : Sto} {r : Res} (h : f1 E S = .ok (.bl true) S1) (h2 : f2 E S1 = r) : vAnd f1 f2 E S = r := by
  simp [vAnd, h, h2, Res.bind, truth]
theorem tup2 {f1 f2 : FE} {x y : D} {E : Ev} {S S1 S2 : Sto} (h : f1 E S = .ok x S1) (h' : f2 E S1 = .ok y S2) : vTup (lCons f1 (lCons f2 lNil)) E S = .ok (.tup [x, y]) S2 := by
  simp [vTup, lCons, lNil, h, h', Res.bindL, ResL.bind, ResL.bindL]
theorem of_ok {S : Sto} {p n : Nat} {g s : Int} {ds : List D} (hp : S[p]? = some (pc g s)) (P0 : Pot g s) (hn : S[n]? = some (.lst ds)) (hne : n ≠ p) (h1 : 1 ≤ ds.length) (h2 : ds.length < 2 ^ 60) :
    ∃ d S', d ∈ ds ∧ Fr p S S' ∧ S'.length = S.length ∧ fn__law_of [.ref p, .ref n] S = .ok d S' := by
  obtain ⟨r, S1, hr, hr2, F1, L1, e1⟩ := take_fr hp P0 (u := (ds.length : Int)) (by omega) (by omega)
  have hn1 : S1[n]? = some (.lst ds) := by
    rw [F1.at (lt_of hn) hne]
    exact hn
  have hlt : r.toNat < ds.length := by omega
  refine ⟨ds[r.toNat], S1, List.getElem_mem _, F1, L1, ?_⟩
  have hat : L2.atI ds r = some ds[r.toNat] := by
    unfold L2.atI L2.ixN
    rw [if_pos hr, if_pos hr2]
    simp [hlt]
  simp [fn__law_of, b__law_of, vV, vC, vBin, vUn, lNil, lCons, vTup, vLst, vEmp, vIf, vCall, vNot, vAnd, vOr, bOf, bAnd, bOr, bNot, bCmp, truth, sNil, sSeq, sSet, sEx, sRet, sIf, sPut, sSub, sPar, vFn, pick, Pat.put, Pat.puts, SRes.then, gAdd, Z.gSub, gMul_sm, gMod, gDiv, gPow, gNeg, gCmpI, gIx, gLen, gAbs, gInt, gMax2, gMin2, seqOf, Z.listOf, runS, Res.bind, Res.bindL, Res.bindB, ResL.bind, ResL.bindL, ResB.bind, ResB.bindB, Res.s, ResB.s, List.replicate, hn, e1, hn1, hat]
/-- a fraction of small parts -/
structure Fra (n d : Int) : Prop where
  nb : n.natAbs < 2 ^ 40
  d1 : 1 ≤ d
  d2 : d.natAbs < 2 ^ 40
  co : gg n d = 1
theorem Fra.of {t l : Int} (ht : t.natAbs < 2 ^ 40) (h : l ≠ 0) (hl : l.natAbs < 2 ^ 40) : Fra (nn t l) (dd t l) :=
  ⟨Nat.lt_of_le_of_lt (nn_le h) ht, dd_pos h, Nat.lt_of_le_of_lt (dd_le h) hl, gg_nf h⟩
theorem sm40 {i : Int} (h : i.natAbs < 2 ^ 40) : Sm i := sm_of (by omega) (by omega)
theorem drawn_ok {S : Sto} {p : Nat} {g s : Int} (hp : S[p]? = some (pc g s)) (P0 : Pot g s) :
    ∃ n d S', Fra n d ∧ Fr p S S' ∧ fn__law_drawn [.ref p] S = .ok (.tup [.int n, .int d]) S' := by
  have lt := lt_of hp
  obtain ⟨a, S1, ha, ha2, F1, L1, e1⟩ := take_fr hp P0 (u := 1000) (by decide) (by decide)
  obtain ⟨g1, s1, P1, hp1⟩ := F1.pot lt
  obtain ⟨b, S2, hb, hb2, F2, L2', e2⟩ := take_fr hp1 P1 (u := 1000000000000) (by decide) (by decide)
  have F12 := F1.trans lt F2
  let c : Cell := .lst ([0, 1, 2, 3, 5, 12, a, b].map .int)
  have F3 : Fr p S (S2 ++ [c]) := F12.grow [c]
  obtain ⟨g3, s3, P3, hp3⟩ := F3.pot lt
  obtain ⟨d, S4, hd, F4, L4, o1⟩ := of_ok hp3 P3 (get_new S2 c) (by omega) (by simp) (by simp)
  have F5 := F3.trans lt F4
  obtain ⟨t, ht, rfl⟩ := List.mem_map.mp hd
  have tb : t.natAbs < 2 ^ 40 := by
    simp only [List.mem_cons, List.not_mem_nil, or_false] at ht
    omega
  obtain ⟨g5, s5, P5, hp5⟩ := F5.pot lt
  obtain ⟨a', S6, ha', ha2', F6, L6, e6⟩ := take_fr hp5 P5 (u := 1000) (by decide) (by decide)
  have F56 := F5.trans lt F6
  obtain ⟨g6, s6, P6, hp6⟩ := F56.pot lt
  obtain ⟨b', S7, hb', hb2', F7, L7, e7⟩ := take_fr hp6 P6 (u := 100000000000) (by decide) (by decide)
  have F57 := F56.trans lt F7
  let c' : Cell := .lst ([1, 1, 2, 3, 4, 12, 1 + a', 1 + b'].map .int)
  have F8 : Fr p S (S7 ++ [c']) := F57.grow [c']
  obtain ⟨g8, s8, P8, hp8⟩ := F8.pot lt
  have l7 : p < S7.length := by rw [L7, L6, L4]; simp; omega
  obtain ⟨d', S9, hd', F9, L9, o2⟩ := of_ok hp8 P8 (get_new S7 c') (by omega) (by simp) (by simp)
  have F10 := F8.trans lt F9
  obtain ⟨l, hl, rfl⟩ := List.mem_map.mp hd'
  have lb : 1 ≤ l ∧ l.natAbs < 2 ^ 40 := by
    simp only [List.mem_cons, List.not_mem_nil, or_false] at hl
    omega
  obtain ⟨g10, s10, P10, hp10⟩ := F10.pot lt
  obtain ⟨z, S11, hz, hz2, F11, L11, e11⟩ := take_fr hp10 P10 (u := 3) (by decide) (by decide)
  have F12 := F10.trans lt F11
  have pw1 : gPow (.int 10) (.int 12) S1 = .ok (.int 1000000000000) S1 := rfl
  have hl0 : l ≠ 0 := by omega
  have fin : ∀ t' : Int, t'.natAbs < 2 ^ 40 → (∀ E, vIf (bCmp gGt (vCall (vFn 2 [0, 1] [] fn__law_take) (lCons (vV 0) (lCons (vC (.int 3)) (lNil)))) (vC (.int 0))) (vV 1) (vBin gSub (vC (.int 0)) (vV 1)) (some (.ref p) :: some (.int t) :: E) S9 = .ok (.int t') S11) →
      ∃ n d S', Fra n d ∧ Fr p S S' ∧ fn__law_drawn [.ref p] S = .ok (.tup [.int n, .int d]) S' := fun t' hb hif => by
    refine ⟨nn t' l, dd t' l, S11, Fra.of hb hl0 lb.2, F12, run_ret ?_⟩
    have q1 : vCall (vFn 2 [0, 1] [] fn__law_of) (lCons (vV 0) (lCons (vLst (lCons (vC (.int 0)) (lCons (vC (.int 1)) (lCons (vC (.int 2)) (lCons (vC (.int 3)) (lCons (vC (.int 5)) (lCons (vC (.int 12)) (lCons (vCall (vFn 2 [0, 1] [] fn__law_take) (lCons (vV 0) (lCons (vC (.int 1000)) (lNil)))) (lCons (vCall (vFn 2 [0, 1] [] fn__law_take) (lCons (vV 0) (lCons (vBin gPow (vC (.int 10)) (vC (.int 12))) (lNil)))) (lNil)))))))))) (lNil))) [some (.ref p), none, none] S = .ok (.int t) S4 :=
      call2 (x := .ref p) (y := .ref S2.length) rfl (by simp [vV, vC, vBin, vUn, lNil, lCons, vTup, vLst, vEmp, vIf, vCall, vNot, vAnd, vOr, bOf, bAnd, bOr, bNot, bCmp, truth, sNil, sSeq, sSet, sEx, sRet, sIf, sPut, sSub, sPar, vFn, pick, Pat.put, Pat.puts, SRes.then, gAdd, Z.gSub, gMul_sm, gMod, gDiv, gPow, gNeg, gCmpI, gIx, gLen, gAbs, gInt, gMax2, gMin2, seqOf, Z.listOf, runS, Res.bind, Res.bindL, Res.bindB, ResL.bind, ResL.bindL, ResB.bind, ResB.bindB, Res.s, ResB.s, List.replicate, e1, e2, c]) (fn2 o1)
    have q2 : vCall (vFn 2 [0, 1] [] fn__law_of) (lCons (vV 0) (lCons (vLst (lCons (vC (.int 1)) (lCons (vC (.int 1)) (lCons (vC (.int 2)) (lCons (vC (.int 3)) (lCons (vC (.int 4)) (lCons (vC (.int 12)) (lCons (vBin gAdd (vC (.int 1)) (vCall (vFn 2 [0, 1] [] fn__law_take) (lCons (vV 0) (lCons (vC (.int 1000)) (lNil))))) (lCons (vBin gAdd (vC (.int 1)) (vCall (vFn 2 [0, 1] [] fn__law_take) (lCons (vV 0) (lCons (vBin gPow (vC (.int 10)) (vC (.int 11))) (lNil))))) (lNil)))))))))) (lNil))) [some (.ref p), some (.int t), none] S4 = .ok (.int l) S9 :=
      call2 (x := .ref p) (y := .ref S7.length) rfl (by simp [vV, vC, vBin, vUn, lNil, lCons, vTup, vLst, vEmp, vIf, vCall, vNot, vAnd, vOr, bOf, bAnd, bOr, bNot, bCmp, truth, sNil, sSeq, sSet, sEx, sRet, sIf, sPut, sSub, sPar, vFn, pick, Pat.put, Pat.puts, SRes.then, gAdd, Z.gSub, gMul_sm, gMod, gDiv, gPow, gNeg, gCmpI, gIx, gLen, gAbs, gInt, gMax2, gMin2, seqOf, Z.listOf, runS, Res.bind, Res.bindL, Res.bindB, ResL.bind, ResL.bindL, ResB.bind, ResB.bindB, Res.s, ResB.s, List.replicate, e6, e7, c']) (fn2 o2)
    refine (seq_set q1).trans ((seq_set q2).trans (one_ret ?_))
    exact call2 (hif _) (y := .int l) rfl (fn2 (reduced_ok S11 hl0 (sm40 hb) (sm40 lb.2)))
  by_cases h : 0 < z
  · exact fin t tb fun E => by simp [vV, vC, vBin, vUn, lNil, lCons, vTup, vLst, vEmp, vIf, vCall, vNot, vAnd, vOr, bOf, bAnd, bOr, bNot, bCmp, truth, sNil, sSeq, sSet, sEx, sRet, sIf, sPut, sSub, sPar, vFn, pick, Pat.put, Pat.puts, SRes.then, gAdd, Z.gSub, gMul_sm, gMod, gDiv, gPow, gNeg, gCmpI, gIx, gLen, gAbs, gInt, gMax2, gMin2, seqOf, Z.listOf, runS, Res.bind, Res.bindL, Res.bindB, ResL.bind, ResL.bindL, ResB.bind, ResB.bindB, Res.s, ResB.s, List.replicate, e11, h]
  · exact fin (0 - t) (by omega) fun E => by simp [vV, vC, vBin, vUn, lNil, lCons, vTup, vLst, vEmp, vIf, vCall, vNot, vAnd, vOr, bOf, bAnd, bOr, bNot, bCmp, truth, sNil, sSeq, sSet, sEx, sRet, sIf, sPut, sSub, sPar, vFn, pick, Pat.put, Pat.puts, SRes.then, gAdd, Z.gSub, gMul_sm, gMod, gDiv, gPow, gNeg, gCmpI, gIx, gLen, gAbs, gInt, gMax2, gMin2, seqOf, Z.listOf, runS, Res.bind, Res.bindL, Res.bindB, ResL.bind, ResL.bindL, ResB.bind, ResB.bindB, Res.s, ResB.s, List.replicate, e11, h]
end P
namespace P
open PySem PySem.Spec PyProof.Rows L2 Z
/-- data whose text is short -/
structure Ti (k w : Nat) (p : PyData) : Prop where
  sh : p.showable = true
  nd : p.hasDict = false
  cl : p.canLay0 = true
  dp : p.depth ≤ k
  wt : p.weight ≤ w
  sr : p.intsShort 1001 = true
structure TiA (k w : Nat) (p : List PyData) : Prop where
  sh : PyData.showableAll p = true
  nd : PyData.hasDictAll p = false
  cl : PyData.canLayAll0 p = true
  dp : PyData.depthAll p ≤ k
  wt : PyData.weightAll p ≤ w
  sr : PyData.intsShortAll 1001 p = true
theorem ti_int {i : Int} {k : Nat} (h : Sm i) : Ti k 1000 (.int i) := by
  have h1 : i.natAbs.log2 ≤ 999 := log_le h
  refine ⟨?_, rfl, rfl, Nat.zero_le _, ?_, ?_⟩
  · simp only [PyData.showable, decide_eq_true_eq]
    omega
  · simp only [PyData.weight]
    split <;> omega
  · have e := int_text_length_le (a := i) (k := 1000) (by decide) (by omega)
    have e2 : (PyData.int i).shown.length ≤ 1001 := by
      show (Str.ofString (toString i)).length ≤ 1001
      rw [PySem.ofString_length]
      exact e
    unfold PyData.intsShort
    exact decide_eq_true e2
theorem ti_bl {b : Bool} {k : Nat} : Ti k 0 (.bool b) := ⟨rfl, rfl, rfl, Nat.zero_le _, Nat.le_refl _, rfl⟩
theorem ti_non {k : Nat} : Ti k 0 .none := ⟨rfl, rfl, rfl, Nat.zero_le _, Nat.le_refl _, rfl⟩
theorem ti_str {x : Str} {k : Nat} (h : PyData.strOk x = true) (h2 : x.cps.size ≤ 40) : Ti k 40 (.str x) := ⟨rfl, rfl, by simp only [PyData.canLay0]; exact h, Nat.zero_le _, by simp only [PyData.weight]; exact h2, rfl⟩
theorem tia_nil {k : Nat} : TiA k 0 [] := ⟨rfl, rfl, rfl, Nat.zero_le _, Nat.le_refl _, rfl⟩
theorem tia_cons {k w w2 : Nat} {p : PyData} {ps : List PyData} (h : Ti k w p) (t : TiA k w2 ps) : TiA k (w + 1 + w2) (p :: ps) := by
  refine ⟨?_, ?_, ?_, ?_, ?_, ?_⟩
  · simp only [PyData.showableAll, h.sh, t.sh, Bool.and_self]
  · simp only [PyData.hasDictAll, h.nd, t.nd, Bool.or_self]
  · simp only [PyData.canLayAll0, h.cl, t.cl, Bool.and_self]
  · simp only [PyData.depthAll]
    exact Nat.max_le.mpr ⟨h.dp, t.dp⟩
  · have := h.wt
    have := t.wt
    simp only [PyData.weightAll]
    omega
  · simp only [PyData.intsShortAll, h.sr, t.sr, Bool.and_self]
theorem ti_tup {k w : Nat} {ps : List PyData} (t : TiA k w ps) : Ti (k + 1) w (.tuple ps) :=
  ⟨by simpa only [PyData.showable] using t.sh, by simpa only [PyData.hasDict] using t.nd, by simpa only [PyData.canLay0] using t.cl, by have := t.dp; simp only [PyData.depth]; omega, by simpa only [PyData.weight] using t.wt, by simpa only [PyData.intsShort] using t.sr⟩
theorem ti_lst {k w : Nat} {ps : List PyData} (t : TiA k w ps) : Ti (k + 1) w (.list ps) :=
  ⟨by simpa only [PyData.showable] using t.sh, by simpa only [PyData.hasDict] using t.nd, by simpa only [PyData.canLay0] using t.cl, by have := t.dp; simp only [PyData.depth]; omega, by simpa only [PyData.weight] using t.wt, by simpa only [PyData.intsShort] using t.sr⟩
theorem shows {d : D} {p : PyData} {S : Sto} {k w : Nat} (h : toPD S 40 d = some p) (t : Ti k w p) (hk : k ≤ 60) (hw : w ≤ 16000) : gRepr [d] S = .ok (.str p.shown) S := by
  have h4 := PyData.shown_le 1001 (by decide) p (PyData.leavesShort_of_canLay0 1001 p t.cl t.sr)
  have h3 := t.wt
  have h5 : p.shown.length ≤ sizeLine := by
    show _ ≤ 16777216
    omega
  have h6 : p.depth ≤ 60 := Nat.le_trans t.dp hk
  simp only [gRepr, h]
  rw [if_pos (by rw [t.sh, t.nd, decide_eq_true h5, decide_eq_true h6]; rfl)]
abbrev fr (n d : Int) : D := .tup [.int n, .int d]
theorem mul_8000 {a b : Int} (ha : Sm a) (hb : Sm b) : (a * b).natAbs < 2 ^ 8000 := by
  rw [Int.natAbs_mul]
  have h : a.natAbs * b.natAbs < 2 ^ 1000 * 2 ^ 1000 := Nat.mul_lt_mul'' ha hb
  rw [← Nat.pow_add] at h
  exact Nat.lt_trans h (Nat.pow_lt_pow_right (by decide) (by decide))
theorem sm_mul {a b : Int} {i j : Nat} (ha : a.natAbs ≤ 2 ^ i) (hb : b.natAbs ≤ 2 ^ j) (h : i + j < 1000) : Sm (a * b) := by
  unfold Sm
  rw [Int.natAbs_mul]
  refine Nat.lt_of_le_of_lt (Nat.mul_le_mul ha hb) ?_
  rw [← Nat.pow_add]
  exact Nat.pow_lt_pow_right (by decide) h
theorem part1 {f : FE} {E : Ev} {S S1 : Sto} {t : Int} (h : f E S = .ok (.int t) S1) : vCall (vFn 1 [0, 1] dfl_part fn_part) (lCons f lNil) E S = .ok (fr t 1) S1 := by
  refine call1 h ?_
  show fn_part [.int t, .int 1] S1 = _
  rw [part_ok S1 (by decide) (Nat.lt_of_lt_of_le (show (1 : Int).natAbs < 2 ^ 1 by decide) (Nat.pow_le_pow_right (by decide) (by decide))), nn_one, dd_one]
theorem part2 {f f2 : FE} {E : Ev} {S S1 S2 : Sto} {t l : Int} (h : f E S = .ok (.int t) S1) (h2 : f2 E S1 = .ok (.int l) S2) (hl : l ≠ 0) (hl2 : l.natAbs < 2 ^ 8000) : vCall (vFn 2 [0, 1] dfl_part fn_part) (lCons f (lCons f2 lNil)) E S = .ok (fr (nn t l) (dd t l)) S2 := by
  refine call2 h h2 ?_
  show fn_part [.int t, .int l] S2 = _
  exact part_ok S2 hl hl2
section
variable {a b c d : Int} {S : Sto}
theorem plus_ok (sa : Sm a) (sb : Sm b) (sc : Sm c) (sd : Sm d) (h : b * d ≠ 0) : fn_plus [fr a b, fr c d] S = .ok (fr (nn (a * d + c * b) (b * d)) (dd (a * d + c * b) (b * d))) S :=
  run_ret (one_ret (part2 (S1 := S) (t := a * d + c * b) (l := b * d) (by simp [vV, vC, vBin, vUn, lNil, lCons, vTup, vLst, vEmp, vIf, vCall, vNot, vAnd, vOr, bOf, bAnd, bOr, bNot, bCmp, truth, sNil, sSeq, sSet, sEx, sRet, sIf, sPut, sSub, sPar, vFn, pick, Pat.put, Pat.puts, SRes.then, gAdd, Z.gSub, gMul_sm, gMod, gDiv, gPow, gNeg, gCmpI, gIx, gLen, gAbs, gInt, gMax2, gMin2, L2.atI, L2.ixN, seqOf, Z.listOf, runS, Res.bind, Res.bindL, Res.bindB, ResL.bind, ResL.bindL, ResB.bind, ResB.bindB, Res.s, ResB.s, List.replicate, sa, sb, sc, sd]) (by simp [vV, vC, vBin, vUn, lNil, lCons, vTup, vLst, vEmp, vIf, vCall, vNot, vAnd, vOr, bOf, bAnd, bOr, bNot, bCmp, truth, sNil, sSeq, sSet, sEx, sRet, sIf, sPut, sSub, sPar, vFn, pick, Pat.put, Pat.puts, SRes.then, gAdd, Z.gSub, gMul_sm, gMod, gDiv, gPow, gNeg, gCmpI, gIx, gLen, gAbs, gInt, gMax2, gMin2, L2.atI, L2.ixN, seqOf, Z.listOf, runS, Res.bind, Res.bindL, Res.bindB, ResL.bind, ResL.bindL, ResB.bind, ResB.bindB, Res.s, ResB.s, List.replicate, sa, sb, sc, sd]) h (mul_8000 sb sd)))
theorem minus_ok (sa : Sm a) (sb : Sm b) (sc : Sm c) (sd : Sm d) (h : b * d ≠ 0) : fn_minus [fr a b, fr c d] S = .ok (fr (nn (a * d - c * b) (b * d)) (dd (a * d - c * b) (b * d))) S :=
  run_ret (one_ret (part2 (S1 := S) (t := a * d - c * b) (l := b * d) (by simp [vV, vC, vBin, vUn, lNil, lCons, vTup, vLst, vEmp, vIf, vCall, vNot, vAnd, vOr, bOf, bAnd, bOr, bNot, bCmp, truth, sNil, sSeq, sSet, sEx, sRet, sIf, sPut, sSub, sPar, vFn, pick, Pat.put, Pat.puts, SRes.then, gAdd, Z.gSub, gMul_sm, gMod, gDiv, gPow, gNeg, gCmpI, gIx, gLen, gAbs, gInt, gMax2, gMin2, L2.atI, L2.ixN, seqOf, Z.listOf, runS, Res.bind, Res.bindL, Res.bindB, ResL.bind, ResL.bindL, ResB.bind, ResB.bindB, Res.s, ResB.s, List.replicate, sa, sb, sc, sd]) (by simp [vV, vC, vBin, vUn, lNil, lCons, vTup, vLst, vEmp, vIf, vCall, vNot, vAnd, vOr, bOf, bAnd, bOr, bNot, bCmp, truth, sNil, sSeq, sSet, sEx, sRet, sIf, sPut, sSub, sPar, vFn, pick, Pat.put, Pat.puts, SRes.then, gAdd, Z.gSub, gMul_sm, gMod, gDiv, gPow, gNeg, gCmpI, gIx, gLen, gAbs, gInt, gMax2, gMin2, L2.atI, L2.ixN, seqOf, Z.listOf, runS, Res.bind, Res.bindL, Res.bindB, ResL.bind, ResL.bindL, ResB.bind, ResB.bindB, Res.s, ResB.s, List.replicate, sa, sb, sc, sd]) h (mul_8000 sb sd)))
theorem times_ok (sa : Sm a) (sb : Sm b) (sc : Sm c) (sd : Sm d) (h : b * d ≠ 0) : fn_times [fr a b, fr c d] S = .ok (fr (nn (a * c) (b * d)) (dd (a * c) (b * d))) S :=
  run_ret (one_ret (part2 (S1 := S) (t := a * c) (l := b * d) (by simp [vV, vC, vBin, vUn, lNil, lCons, vTup, vLst, vEmp, vIf, vCall, vNot, vAnd, vOr, bOf, bAnd, bOr, bNot, bCmp, truth, sNil, sSeq, sSet, sEx, sRet, sIf, sPut, sSub, sPar, vFn, pick, Pat.put, Pat.puts, SRes.then, gAdd, Z.gSub, gMul_sm, gMod, gDiv, gPow, gNeg, gCmpI, gIx, gLen, gAbs, gInt, gMax2, gMin2, L2.atI, L2.ixN, seqOf, Z.listOf, runS, Res.bind, Res.bindL, Res.bindB, ResL.bind, ResL.bindL, ResB.bind, ResB.bindB, Res.s, ResB.s, List.replicate, sa, sb, sc, sd]) (by simp [vV, vC, vBin, vUn, lNil, lCons, vTup, vLst, vEmp, vIf, vCall, vNot, vAnd, vOr, bOf, bAnd, bOr, bNot, bCmp, truth, sNil, sSeq, sSet, sEx, sRet, sIf, sPut, sSub, sPar, vFn, pick, Pat.put, Pat.puts, SRes.then, gAdd, Z.gSub, gMul_sm, gMod, gDiv, gPow, gNeg, gCmpI, gIx, gLen, gAbs, gInt, gMax2, gMin2, L2.atI, L2.ixN, seqOf, Z.listOf, runS, Res.bind, Res.bindL, Res.bindB, ResL.bind, ResL.bindL, ResB.bind, ResB.bindB, Res.s, ResB.s, List.replicate, sa, sb, sc, sd]) h (mul_8000 sb sd)))
theorem over_zero : fn_over [fr a b, fr 0 d] S = .exc "NoPart" [("n", fr a b)] S := by
  simp [fn_over, b_over, vV, vC, vBin, vUn, lNil, lCons, vTup, vLst, vEmp, vIf, vCall, vNot, vAnd, vOr, bOf, bAnd, bOr, bNot, bCmp, truth, sNil, sSeq, sSet, sEx, sRet, sIf, sPut, sSub, sPar, vFn, pick, Pat.put, Pat.puts, SRes.then, gAdd, Z.gSub, gMul_sm, gMod, gDiv, gPow, gNeg, gCmpI, gIx, gLen, gAbs, gInt, gMax2, gMin2, L2.atI, L2.ixN, seqOf, Z.listOf, runS, Res.bind, Res.bindL, Res.bindB, ResL.bind, ResL.bindL, ResB.bind, ResB.bindB, Res.s, ResB.s, List.replicate, eq_ii, sRaise]
theorem over_ok (sa : Sm a) (sb : Sm b) (sc : Sm c) (sd : Sm d) (hc : c ≠ 0) (h : b * c ≠ 0) : fn_over [fr a b, fr c d] S = .ok (fr (nn (a * d) (b * c)) (dd (a * d) (b * c))) S := by
  have e0 : bCmp gEq (vBin gIx (vV 1) (vC (.int 0))) (vC (.int 0)) [some (fr a b), some (fr c d)] S = .ok false S := by
    simp [vV, vC, vBin, vUn, lNil, lCons, vTup, vLst, vEmp, vIf, vCall, vNot, vAnd, vOr, bOf, bAnd, bOr, bNot, bCmp, truth, sNil, sSeq, sSet, sEx, sRet, sIf, sPut, sSub, sPar, vFn, pick, Pat.put, Pat.puts, SRes.then, gAdd, Z.gSub, gMul_sm, gMod, gDiv, gPow, gNeg, gCmpI, gIx, gLen, gAbs, gInt, gMax2, gMin2, L2.atI, L2.ixN, seqOf, Z.listOf, runS, Res.bind, Res.bindL, Res.bindB, ResL.bind, ResL.bindL, ResB.bind, ResB.bindB, Res.s, ResB.s, List.replicate, eq_ii, hc]
  exact run_ret ((seq_no e0).trans (one_ret (part2 (S1 := S) (t := a * d) (l := b * c) (by simp [vV, vC, vBin, vUn, lNil, lCons, vTup, vLst, vEmp, vIf, vCall, vNot, vAnd, vOr, bOf, bAnd, bOr, bNot, bCmp, truth, sNil, sSeq, sSet, sEx, sRet, sIf, sPut, sSub, sPar, vFn, pick, Pat.put, Pat.puts, SRes.then, gAdd, Z.gSub, gMul_sm, gMod, gDiv, gPow, gNeg, gCmpI, gIx, gLen, gAbs, gInt, gMax2, gMin2, L2.atI, L2.ixN, seqOf, Z.listOf, runS, Res.bind, Res.bindL, Res.bindB, ResL.bind, ResL.bindL, ResB.bind, ResB.bindB, Res.s, ResB.s, List.replicate, sa, sb, sc, sd]) (by simp [vV, vC, vBin, vUn, lNil, lCons, vTup, vLst, vEmp, vIf, vCall, vNot, vAnd, vOr, bOf, bAnd, bOr, bNot, bCmp, truth, sNil, sSeq, sSet, sEx, sRet, sIf, sPut, sSub, sPar, vFn, pick, Pat.put, Pat.puts, SRes.then, gAdd, Z.gSub, gMul_sm, gMod, gDiv, gPow, gNeg, gCmpI, gIx, gLen, gAbs, gInt, gMax2, gMin2, L2.atI, L2.ixN, seqOf, Z.listOf, runS, Res.bind, Res.bindL, Res.bindB, ResL.bind, ResL.bindL, ResB.bind, ResB.bindB, Res.s, ResB.s, List.replicate, sa, sb, sc, sd]) h (mul_8000 sb sc))))
theorem less_ok (sa : Sm a) (sb : Sm b) (sc : Sm c) (sd : Sm d) : fn_is_less [fr a b, fr c d] S = .ok (.bl (decide (a * d < c * b))) S := by
  simp [fn_is_less, b_is_less, vV, vC, vBin, vUn, lNil, lCons, vTup, vLst, vEmp, vIf, vCall, vNot, vAnd, vOr, bOf, bAnd, bOr, bNot, bCmp, truth, sNil, sSeq, sSet, sEx, sRet, sIf, sPut, sSub, sPar, vFn, pick, Pat.put, Pat.puts, SRes.then, gAdd, Z.gSub, gMul_sm, gMod, gDiv, gPow, gNeg, gCmpI, gIx, gLen, gAbs, gInt, gMax2, gMin2, L2.atI, L2.ixN, seqOf, Z.listOf, runS, Res.bind, Res.bindL, Res.bindB, ResL.bind, ResL.bindL, ResB.bind, ResB.bindB, Res.s, ResB.s, List.replicate, sa, sb, sc, sd]
end
theorem fr_ti {n d : Int} {k : Nat} (hn : Sm n) (hd : Sm d) : Ti (k + 1) 2002 (.tuple [.int n, .int d]) := ti_tup (tia_cons (ti_int (k := k) hn) (tia_cons (ti_int hd) tia_nil))
theorem sm_nn {t l : Int} (h : l ≠ 0) (ht : Sm t) : Sm (nn t l) := Nat.lt_of_le_of_lt (nn_le h) ht
theorem sm_dd {t l : Int} (h : l ≠ 0) (hl : Sm l) : Sm (dd t l) := Nat.lt_of_le_of_lt (dd_le h) hl
theorem same_eq {z : Str} {S : Sto} : gEq (.str z) (.str z) S = .ok (.bl true) S := by
  simp [gEq]
theorem fn2s {F : List D → Sto → Res} {r : Res} {x y : D} {S : Sto} (h : F [y, x] S = r) : vFn 2 [1, 0] [] F [x, y] S = r := by
  rw [← h]
  rfl
theorem seq_asc {A B C : FS} {E E1 : Ev} {S S1 : Sto} (h : sSeq A B E S = .nx E1 S1) : sSeq A (sSeq B C) E S = C E1 S1 := by
  unfold sSeq at h ⊢
  cases e : A E S with
  | nx E2 S2 => rw [e] at h; simp only [SRes.then] at h ⊢; rw [h]
  | _ => rw [e] at h; cases h
theorem over_right_ok {a b c d : Int} {S : Sto} (F : Fra a b) (G : Fra c d) : ∃ U, fn__law_over_right [fr a b, fr c d] S = .ok (.bl true) (S ++ U) := by
  have sa := sm40 F.nb
  have sb := sm40 F.d2
  have sc := sm40 G.nb
  have sd := sm40 G.d2
  have rp : ∀ S, gRepr [fr a b] S = .ok (.str (PyData.tuple [.int a, .int b]).shown) S := fun S => shows (k := 1) rfl (fr_ti sa sb) (by decide) (by decide)
  by_cases hc : c = 0
  · subst hc
    have c1 : gIsi itab [.own "NoPart"] (.ref S.length) (S ++ [.exc "NoPart" [("n", fr a b)]]) = .ok (.bl true) (S ++ [.exc "NoPart" [("n", fr a b)]]) := by
      simp only [gIsi, tyC, get_new]
      rfl
    have c5 : gFld ["NoPart"] "n" (.ref S.length) (S ++ [.exc "NoPart" [("n", fr a b)]]) = .ok (fr a b) (S ++ [.exc "NoPart" [("n", fr a b)]]) := by
      simp only [gFld, get_new]
      rfl
    have c6 : caughtL ct__law_over_right_0 "NoPart" = some true := rfl
    refine ⟨[.exc "NoPart" [("n", fr a b)]], ?_⟩
    simp [fn__law_over_right, b__law_over_right, vV, vC, vBin, vUn, lNil, lCons, vTup, vLst, vEmp, vIf, vCall, vNot, vAnd, vOr, bOf, bAnd, bOr, bNot, bCmp, truth, sNil, sSeq, sSet, sEx, sRet, sIf, sPut, sSub, sPar, vFn, pick, Pat.put, Pat.puts, SRes.then, gAdd, Z.gSub, gMul_sm, gMod, gDiv, gPow, gNeg, gCmpI, gIx, gLen, gAbs, gInt, gMax2, gMin2, L2.atI, L2.ixN, seqOf, Z.listOf, runS, Res.bind, Res.bindL, Res.bindB, ResL.bind, ResL.bindL, ResB.bind, ResB.bindB, Res.s, ResB.s, List.replicate, over_zero, sTry, c6, c1, c5, rp, same_eq, eq_ii]
  · have hb : b ≠ 0 := by have := F.d1; omega
    have hd : d ≠ 0 := by have := G.d1; omega
    have hbc : b * c ≠ 0 := Int.mul_ne_zero hb hc
    have sX : Sm (a * d) := sm_mul (Nat.le_of_lt F.nb) (Nat.le_of_lt G.d2) (by decide)
    have sY : Sm (b * c) := sm_mul (Nat.le_of_lt F.d2) (Nat.le_of_lt G.nb) (by decide)
    have ov := fun S => over_ok (S := S) sa sb sc sd hc hbc
    let due : D := fr (nn (a * d) (b * c)) (dd (a * d) (b * c))
    have tb : ∀ {S : Sto} {n : Nat}, S[n]? = some (.lst [due, due]) → gRepr [.ref n] S = .ok (.str (PyData.list [.tuple [.int (nn (a * d) (b * c)), .int (dd (a * d) (b * c))], .tuple [.int (nn (a * d) (b * c)), .int (dd (a * d) (b * c))]]).shown) S := fun {S n} h => by
      have one : Ti 1 2002 (.tuple [.int (nn (a * d) (b * c)), .int (dd (a * d) (b * c))]) := fr_ti (sm_nn hbc sX) (sm_dd hbc sY)
      exact shows (k := 2) (by simp [toPD, h, due, optAll]) (ti_lst (tia_cons one (tia_cons one tia_nil))) (by decide) (by decide)
    let E1 : Ev := [some (fr a b), some (fr c d), some .non, some due, none, none]
    let E2 : Ev := [some (fr a b), some (fr c d), some .non, some due, some due, none]
    have p1 : sSeq (sPut (.tp [.nm 2, .nm 3]) (vTup (lCons (vC .non) (lCons (vC .non) (lNil))))) (sTry (sSeq (sSet 3 (vCall (vFn 2 [0, 1] [] fn_over) (lCons (vV 0) (lCons (vV 1) (lNil))))) (sNil)) (caughtL ct__law_over_right_0) 5 (sSeq (sSet 2 (vV 5)) (sNil))) [some (fr a b), some (fr c d), none, none, none, none] S = .nx E1 S := by
      simp [vV, vC, vBin, vUn, lNil, lCons, vTup, vLst, vEmp, vIf, vCall, vNot, vAnd, vOr, bOf, bAnd, bOr, bNot, bCmp, truth, sNil, sSeq, sSet, sEx, sRet, sIf, sPut, sSub, sPar, vFn, pick, Pat.put, Pat.puts, SRes.then, gAdd, Z.gSub, gMul_sm, gMod, gDiv, gPow, gNeg, gCmpI, gIx, gLen, gAbs, gInt, gMax2, gMin2, L2.atI, L2.ixN, seqOf, Z.listOf, runS, Res.bind, Res.bindL, Res.bindB, ResL.bind, ResL.bindL, ResB.bind, ResB.bindB, Res.s, ResB.s, List.replicate, sTry, ov, due, E1]
    have c0 : bCmp gEq (vBin gIx (vV 1) (vC (.int 0))) (vC (.int 0)) E1 S = .ok false S := by
      simp [vV, vC, vBin, vUn, lNil, lCons, vTup, vLst, vEmp, vIf, vCall, vNot, vAnd, vOr, bOf, bAnd, bOr, bNot, bCmp, truth, sNil, sSeq, sSet, sEx, sRet, sIf, sPut, sSub, sPar, vFn, pick, Pat.put, Pat.puts, SRes.then, gAdd, Z.gSub, gMul_sm, gMod, gDiv, gPow, gNeg, gCmpI, gIx, gLen, gAbs, gInt, gMax2, gMin2, L2.atI, L2.ixN, seqOf, Z.listOf, runS, Res.bind, Res.bindL, Res.bindB, ResL.bind, ResL.bindL, ResB.bind, ResB.bindB, Res.s, ResB.s, List.replicate, eq_ii, hc, E1]
    have q4 : vCall (vFn 2 [0, 1] [] fn__law_reduced) (lCons (vBin gMul (vBin gIx (vV 0) (vC (.int 0))) (vBin gIx (vV 1) (vC (.int 1)))) (lCons (vBin gMul (vBin gIx (vV 0) (vC (.int 1))) (vBin gIx (vV 1) (vC (.int 0)))) (lNil))) E1 S = .ok due S :=
      call2 (x := .int (a * d)) (y := .int (b * c)) (S1 := S) (by simp [vV, vC, vBin, vUn, lNil, lCons, vTup, vLst, vEmp, vIf, vCall, vNot, vAnd, vOr, bOf, bAnd, bOr, bNot, bCmp, truth, sNil, sSeq, sSet, sEx, sRet, sIf, sPut, sSub, sPar, vFn, pick, Pat.put, Pat.puts, SRes.then, gAdd, Z.gSub, gMul_sm, gMod, gDiv, gPow, gNeg, gCmpI, gIx, gLen, gAbs, gInt, gMax2, gMin2, L2.atI, L2.ixN, seqOf, Z.listOf, runS, Res.bind, Res.bindL, Res.bindB, ResL.bind, ResL.bindL, ResB.bind, ResB.bindB, Res.s, ResB.s, List.replicate, sa, sb, sc, sd, E1]) (by simp [vV, vC, vBin, vUn, lNil, lCons, vTup, vLst, vEmp, vIf, vCall, vNot, vAnd, vOr, bOf, bAnd, bOr, bNot, bCmp, truth, sNil, sSeq, sSet, sEx, sRet, sIf, sPut, sSub, sPar, vFn, pick, Pat.put, Pat.puts, SRes.then, gAdd, Z.gSub, gMul_sm, gMod, gDiv, gPow, gNeg, gCmpI, gIx, gLen, gAbs, gInt, gMax2, gMin2, L2.atI, L2.ixN, seqOf, Z.listOf, runS, Res.bind, Res.bindL, Res.bindB, ResL.bind, ResL.bindL, ResB.bind, ResB.bindB, Res.s, ResB.s, List.replicate, sa, sb, sc, sd, E1]) (fn2 (reduced_ok S hbc sX sY))
    let S1 : Sto := S ++ [.lst [due, due]]
    let S2 : Sto := S1 ++ [.lst [due]]
    have q5 : vCall (vFn 2 [1, 0] [] fn_over) (lCons (vV 1) (lCons (vV 0) lNil)) E2 S = .ok due S := call2 (x := fr c d) (y := fr a b) rfl rfl (fn2s (ov S))
    have q6 : vCall gRepr (lCons (vLst (lCons (vV 3) (lCons (vCall (vFn 2 [1, 0] [] fn_over) (lCons (vV 1) (lCons (vV 0) (lNil)))) (lNil)))) (lNil)) E2 S = .ok (.str (PyData.list [.tuple [.int (nn (a * d) (b * c)), .int (dd (a * d) (b * c))], .tuple [.int (nn (a * d) (b * c)), .int (dd (a * d) (b * c))]]).shown) S1 :=
      call1 (lst2 (x := due) rfl q5) (tb (get_new S _))
    have q7 : vCall gRepr (lCons (vBin gMul (vLst (lCons (vV 4) (lNil))) (vC (.int 2))) (lNil)) E2 S1 = .ok (.str (PyData.list [.tuple [.int (nn (a * d) (b * c)), .int (dd (a * d) (b * c))], .tuple [.int (nn (a * d) (b * c)), .int (dd (a * d) (b * c))]]).shown) (S2 ++ [.lst [due, due]]) :=
      call1 (bin_ok (lst1 (d := due) rfl) rfl (mul_lst (xs := [due]) (get_new S1 _) (by decide) (by decide) (Nat.le_of_ble_eq_true rfl))) (tb (get_new S2 _))
    have q8 : vBin (gIsN false) (vV 2) (vC .non) E2 S = .ok (.bl true) S := rfl
    refine ⟨[.lst [due, due]] ++ [.lst [due]] ++ [.lst [due, due]], run_ret ?_⟩
    have q9 := one_ret (and_ok q8 (bin_ok q6 q7 (same_eq (S := S2 ++ [.lst [due, due]]))))
    refine (seq_asc p1).trans ((seq_no c0).trans ((seq_set q4).trans (q9.trans ?_)))
    simp [S2, S1]
end P
namespace P
open PySem PySem.Spec PyProof.Rows L2 Z
theorem lc_true {p : Pat} {e : FE} {E0 : Ev} {src : Option Nat} {all : List D} (A : Sto) (hsrc : ∀ n, src = some n → A[n]? = some (.lst all)) : ∀ (rest acc : List D) (B : Sto), acc.length + rest.length < 1000 →
    (∀ d ∈ rest, ∃ E1, p.put d E0 = some E1 ∧ ∀ C : Sto, ∃ U, e E1 (A ++ C) = .ok (.bl true) (A ++ C ++ U)) →
    ∃ B', lcS p bTrue e src all A.length E0 rest (A ++ [.lst acc] ++ B) = .ok (.ref A.length) (A ++ [.lst (acc ++ List.replicate rest.length (.bl true))] ++ B')
  | rest, acc, B, hl, hd => by
    have hs : ∀ {α : Type} (C : Sto) (k bad : α), srcIf src all (A ++ C) k bad = k := fun C k bad => by
      cases src with
      | none => exact srcIf_none
      | some n => exact srcIf_some (by rw [List.getElem?_append_left (lt_of (hsrc n rfl))]; exact hsrc n rfl)
    cases rest with
    | nil =>
      refine ⟨B, ?_⟩
      unfold lcS
      rw [List.append_assoc, hs]
      simp
    | cons d r =>
      obtain ⟨E1, h1, h2⟩ := hd d List.mem_cons_self
      obtain ⟨U, h3⟩ := h2 ([.lst acc] ++ B)
      have hl2 : acc.length + (r.length + 1) < 1000 := hl
      obtain ⟨B', h4⟩ := lc_true A hsrc r (acc ++ [.bl true]) (B ++ U) (by simp; omega) (fun x hx => hd x (List.mem_cons_of_mem _ hx))
      refine ⟨B', ?_⟩
      unfold lcS
      rw [List.append_assoc, hs, h1]
      have hb : bTrue E1 (A ++ ([.lst acc] ++ B)) = .ok true (A ++ ([.lst acc] ++ B)) := rfl
      have hg : (A ++ ([.lst acc] ++ B) ++ U)[A.length]? = some (.lst acc) := by simp
      simp only [hb, h3, hg]
      rw [if_pos (by omega)]
      have hset : (A ++ ([Cell.lst acc] ++ B) ++ U).set A.length (Cell.lst (acc ++ [D.bl true])) = A ++ [Cell.lst (acc ++ [D.bl true])] ++ (B ++ U) := by simp
      rw [hset, h4]
      simp [List.replicate_succ]
theorem bls_rep : ∀ n : Nat, blsOf (List.replicate n (.bl true)) = some (List.replicate n true)
  | 0 => rfl
  | n + 1 => by
    rw [List.replicate_succ]
    simp [blsOf, bls_rep n, List.replicate_succ]
/-- all([..]) -/
theorem all_true {it : FI} {p : Pat} {own : List Nat} {e : FE} {E : Ev} {S A : Sto} {all : List D} {src : Option Nat} (hi : it E S = .ok all src A) (hsrc : ∀ n, src = some n → A[n]? = some (.lst all)) (hl : all.length < 1000)
    (hd : ∀ d ∈ all, ∃ E1, p.put d (wipeE E own) = some E1 ∧ ∀ C : Sto, ∃ U, e E1 (A ++ C) = .ok (.bl true) (A ++ C ++ U)) :
    ∃ U, vCall gAll (lCons (vLc it p own bTrue e) lNil) E S = .ok (.bl true) (A ++ U) := by
  obtain ⟨B', h⟩ := lc_true (e := e) A hsrc all [] [] (by simpa using hl) hd
  refine ⟨[.lst (List.replicate all.length (.bl true))] ++ B', call1 (d := .ref A.length) (S1 := A ++ [.lst (List.replicate all.length (.bl true))] ++ B') ?_ ?_⟩
  · unfold vLc
    rw [hi]
    simpa using h
  · have hg : (A ++ [.lst (List.replicate all.length (.bl true))] ++ B')[A.length]? = some (.lst (List.replicate all.length (.bl true))) := by simp
    simp [gAll, Z.listOf, hg, bls_rep]
theorem cross {t l : Int} (h : l ≠ 0) : nn t l * l = t * dd t l := by
  have h1 := gg_t t l
  have h2 := gg_l t l
  unfold nn dd
  generalize t / gg t l = x at *
  generalize l / gg t l = y at *
  generalize gg t l = g at *
  have h3 : x * l = t * y := by rw [← h1, ← h2, Int.mul_left_comm, Int.mul_assoc]
  split
  · rw [Int.neg_mul, Int.mul_neg, h3]
  · exact h3
theorem uniq {X Y a b : Int} (hY : Y ≠ 0) (hb : 1 ≤ b) (hg : gg a b = 1) (h : X * b = a * Y) : nn X Y = a ∧ dd X Y = b := by
  have h1 := cross (t := X) hY
  have h2 := dd_pos (t := X) hY
  have h3 := gg_nf (t := X) hY
  generalize nn X Y = n at *
  generalize dd X Y = e at *
  have h4 : n * b = a * e := by
    have q : Y * (n * b) = Y * (a * e) := by
      calc Y * (n * b) = n * Y * b := by rw [Int.mul_comm n Y, Int.mul_assoc]
        _ = X * e * b := by rw [h1]
        _ = X * b * e := by rw [Int.mul_assoc, Int.mul_comm e, ← Int.mul_assoc]
        _ = a * Y * e := by rw [h]
        _ = Y * (a * e) := by rw [Int.mul_comm a Y, Int.mul_assoc]
    exact Int.eq_of_mul_eq_mul_left hY q
  have h5 : n.natAbs * b.natAbs = a.natAbs * e.natAbs := by rw [← Int.natAbs_mul, ← Int.natAbs_mul, h4]
  have g1 : Nat.Coprime a.natAbs b.natAbs := by unfold gg at hg; exact Int.ofNat.inj hg
  have g2 : Nat.Coprime n.natAbs e.natAbs := by unfold gg at h3; exact Int.ofNat.inj h3
  have d1 : b.natAbs ∣ e.natAbs := Nat.Coprime.dvd_of_dvd_mul_left g1.symm ⟨n.natAbs, by rw [← h5, Nat.mul_comm]⟩
  have d2 : e.natAbs ∣ b.natAbs := Nat.Coprime.dvd_of_dvd_mul_left g2.symm ⟨a.natAbs, by rw [h5, Nat.mul_comm]⟩
  have e1 := Nat.dvd_antisymm d1 d2
  have e2 : e = b := by omega
  subst e2
  exact ⟨Int.eq_of_mul_eq_mul_right (by omega) h4, rfl⟩
end P
namespace P
open PySem PySem.Spec PyProof.Rows L2 Z
theorem ii_int (i : Int) (S : Sto) : gIsi itab [.ty "int"] (.int i) S = .ok (.bl true) S := rfl
theorem ib_int (i : Int) (S : Sto) : gIsi itab [.ty "bool"] (.int i) S = .ok (.bl false) S := rfl
theorem it_tup (x : List D) (S : Sto) : gIsi itab [.ty "tuple"] (.tup x) S = .ok (.bl true) S := rfl
theorem whole_int {i : Int} {S : Sto} : fn_is_whole [.int i] S = .ok (.bl true) S := by
  simp [fn_is_whole, b_is_whole, vV, vC, vBin, vUn, lNil, lCons, vTup, vLst, vEmp, vIf, vCall, vNot, vAnd, vOr, bOf, bAnd, bOr, bNot, bCmp, truth, sNil, sSeq, sSet, sEx, sRet, sIf, sPut, sSub, sPar, vFn, pick, Pat.put, Pat.puts, SRes.then, gAdd, Z.gSub, gMul_sm, gMod, gDiv, gPow, gNeg, gCmpI, gIx, gLen, gAbs, gInt, gMax2, gMin2, L2.atI, L2.ixN, seqOf, Z.listOf, runS, Res.bind, Res.bindL, Res.bindB, ResL.bind, ResL.bindL, ResB.bind, ResB.bindB, Res.s, ResB.s, List.replicate, ii_int, ib_int]
theorem isf_ok {n d : Int} {S : Sto} (h : 1 ≤ d) (hg : gg n d = 1) : fn_is_fraction [fr n d] S = .ok (.bl true) S := by
  have hg2 : ((Nat.gcd n.natAbs d.natAbs : Nat) : Int) = 1 := hg
  simp [fn_is_fraction, b_is_fraction, vV, vC, vBin, vUn, lNil, lCons, vTup, vLst, vEmp, vIf, vCall, vNot, vAnd, vOr, bOf, bAnd, bOr, bNot, bCmp, truth, sNil, sSeq, sSet, sEx, sRet, sIf, sPut, sSub, sPar, vFn, pick, Pat.put, Pat.puts, SRes.then, gAdd, Z.gSub, gMul_sm, gMod, gDiv, gPow, gNeg, gCmpI, gIx, gLen, gAbs, gInt, gMax2, gMin2, L2.atI, L2.ixN, seqOf, Z.listOf, runS, Res.bind, Res.bindL, Res.bindB, ResL.bind, ResL.bindL, ResB.bind, ResB.bindB, Res.s, ResB.s, List.replicate, it_tup, ne_ii, whole_int, h, gGcd, eq_ii, hg2]
theorem fraD {n d : Int} (h : Fra n d) : d ≠ 0 := by have := h.d1; omega
theorem or_v {f1 f2 : FE} {E : Ev} {S S1 : Sto} {r : Res} (h : f1 E S = .ok (.bl false) S1) (h2 : f2 E S1 = r) : vOr f1 f2 E S = r := by
  simp [vOr, h, h2, Res.bind, truth]
theorem or_t {f1 f2 : FE} {E : Ev} {S S1 : Sto} (h : f1 E S = .ok (.bl true) S1) : vOr f1 f2 E S = .ok (.bl true) S1 := by
  simp [vOr, h, Res.bind, truth]
theorem two_ok {a b c d : Int} {S : Sto} (F : Fra a b) (G : Fra c d) : ∃ U, fn__law_two_right [fr a b, fr c d] S = .ok (.bl true) (S ++ U) := by
  have sa := sm40 F.nb
  have sb := sm40 F.d2
  have sc := sm40 G.nb
  have sd := sm40 G.d2
  have hb := fraD F
  have hd := fraD G
  have hbd : b * d ≠ 0 := Int.mul_ne_zero hb hd
  have la := Nat.le_of_lt F.nb
  have lb := Nat.le_of_lt F.d2
  have lc := Nat.le_of_lt G.nb
  have ld := Nat.le_of_lt G.d2
  have sY : Sm (b * d) := sm_mul lb ld (by decide)
  have mm : ∀ {x y : Int}, x.natAbs ≤ 2 ^ 40 → y.natAbs ≤ 2 ^ 40 → (x * y).natAbs ≤ 2 ^ 80 := fun hx hy => by
    rw [Int.natAbs_mul]
    exact Nat.le_trans (Nat.mul_le_mul hx hy) (by decide)
  have m1 := mm la ld
  have m2 := mm lc lb
  have sX1 : Sm (a * d + c * b) := sm_of (by omega) (by omega)
  have sX2 : Sm (a * d - c * b) := sm_of (by omega) (by omega)
  have sX3 : Sm (a * c) := sm_mul la lc (by decide)
  obtain ⟨n1, hn1⟩ : ∃ x, x = nn (a * d + c * b) (b * d) := ⟨_, rfl⟩
  obtain ⟨e1, he1⟩ : ∃ x, x = dd (a * d + c * b) (b * d) := ⟨_, rfl⟩
  obtain ⟨n2, hn2⟩ : ∃ x, x = nn (a * d - c * b) (b * d) := ⟨_, rfl⟩
  obtain ⟨e2, he2⟩ : ∃ x, x = dd (a * d - c * b) (b * d) := ⟨_, rfl⟩
  obtain ⟨n3, hn3⟩ : ∃ x, x = nn (a * c) (b * d) := ⟨_, rfl⟩
  obtain ⟨e3, he3⟩ : ∃ x, x = dd (a * c) (b * d) := ⟨_, rfl⟩
  have s1 : Sm n1 := hn1 ▸ sm_nn hbd sX1
  have t1 : Sm e1 := he1 ▸ sm_dd hbd sY
  have s2 : Sm n2 := hn2 ▸ sm_nn hbd sX2
  have t2 : Sm e2 := he2 ▸ sm_dd hbd sY
  have s3 : Sm n3 := hn3 ▸ sm_nn hbd sX3
  have t3 : Sm e3 := he3 ▸ sm_dd hbd sY
  have p1 : ∀ S, fn_plus [fr a b, fr c d] S = .ok (fr n1 e1) S := fun S => by rw [hn1, he1]; exact plus_ok sa sb sc sd hbd
  have p2 : ∀ S, fn_minus [fr a b, fr c d] S = .ok (fr n2 e2) S := fun S => by rw [hn2, he2]; exact minus_ok sa sb sc sd hbd
  have p3 : ∀ S, fn_times [fr a b, fr c d] S = .ok (fr n3 e3) S := fun S => by rw [hn3, he3]; exact times_ok sa sb sc sd hbd
  have r1 : ∀ S, fn__law_reduced [.int (a * d + c * b), .int (b * d)] S = .ok (fr n1 e1) S := fun S => by rw [hn1, he1]; exact reduced_ok S hbd sX1 sY
  have r2 : ∀ S, fn__law_reduced [.int (a * d - c * b), .int (b * d)] S = .ok (fr n2 e2) S := fun S => by rw [hn2, he2]; exact reduced_ok S hbd sX2 sY
  have r3 : ∀ S, fn__law_reduced [.int (a * c), .int (b * d)] S = .ok (fr n3 e3) S := fun S => by rw [hn3, he3]; exact reduced_ok S hbd sX3 sY
  have pos1 : 1 ≤ e1 := he1 ▸ dd_pos hbd
  have pos2 : 1 ≤ e2 := he2 ▸ dd_pos hbd
  have pos3 : 1 ≤ e3 := he3 ▸ dd_pos hbd
  have g1 : gg n1 e1 = 1 := by rw [hn1, he1]; exact gg_nf hbd
  have g2 : gg n2 e2 = 1 := by rw [hn2, he2]; exact gg_nf hbd
  have g3 : gg n3 e3 = 1 := by rw [hn3, he3]; exact gg_nf hbd
  have x1 : n1 * (b * d) = (a * d + c * b) * e1 := by rw [hn1, he1]; exact cross hbd
  have x3 : n3 * (b * d) = (a * c) * e3 := by rw [hn3, he3]; exact cross hbd
  clear hn1 he1 hn2 he2 hn3 he3
  let Lc : Cell := .lst [fr n1 e1, fr n2 e2, fr n3 e3]
  have tb : ∀ {S : Sto} {n : Nat}, S[n]? = some Lc → gRepr [.ref n] S = .ok (.str (PyData.list [.tuple [.int n1, .int e1], .tuple [.int n2, .int e2], .tuple [.int n3, .int e3]]).shown) S := fun {S n} h =>
    shows (k := 2) (by simp [toPD, h, Lc, optAll]) (ti_lst (tia_cons (fr_ti s1 t1) (tia_cons (fr_ti s2 t2) (tia_cons (fr_ti s3 t3) tia_nil)))) (by decide) (by decide)
  let lt : Bool := decide (a * d < c * b)
  have ls : ∀ S, fn_is_less [fr a b, fr c d] S = .ok (.bl lt) S := fun S => less_ok sa sb sc sd
  let Bc : Cell := .lst [.bl lt, .bl lt]
  have tb2 : ∀ {S : Sto} {n : Nat}, S[n]? = some Bc → gRepr [.ref n] S = .ok (.str (PyData.list [.bool lt, .bool lt]).shown) S := fun {S n} h =>
    shows (k := 1) (by simp [toPD, h, Bc, optAll]) (ti_lst (tia_cons ti_bl (tia_cons ti_bl tia_nil))) (by decide) (by decide)
  let S1 : Sto := S ++ [Lc]
  let S2 : Sto := S1 ++ [Lc]
  let S3 : Sto := S2 ++ [Lc]
  let E0 : Ev := [some (fr a b), some (fr c d), some (.int a), some (.int b), some (.int c), some (.int d), none, none, none, none, none]
  let E1 : Ev := [some (fr a b), some (fr c d), some (.int a), some (.int b), some (.int c), some (.int d), some (.ref S.length), none, none, none, none]
  let E2 : Ev := [some (fr a b), some (fr c d), some (.int a), some (.int b), some (.int c), some (.int d), some (.ref S.length), some (.ref S1.length), none, none, none]
  let E3 : Ev := [some (fr a b), some (fr c d), some (.int a), some (.int b), some (.int c), some (.int d), some (.ref S.length), some (.ref S1.length), some (.ref S2.length), none, none]
  have a0 : ∀ R : FS, sSeq (sPut (.tp [.tp [.nm 2, .nm 3], .tp [.nm 4, .nm 5]]) (vTup (lCons (vV 0) (lCons (vV 1) (lNil))))) R [some (fr a b), some (fr c d), none, none, none, none, none, none, none, none, none] S = R E0 S := fun R => by
    simp [vV, vC, vBin, vUn, lNil, lCons, vTup, vLst, vEmp, vIf, vCall, vNot, vAnd, vOr, bOf, bAnd, bOr, bNot, bCmp, truth, sNil, sSeq, sSet, sEx, sRet, sIf, sPut, sSub, sPar, vFn, pick, Pat.put, Pat.puts, SRes.then, gAdd, Z.gSub, gMul_sm, gMod, gDiv, gPow, gNeg, gCmpI, gIx, gLen, gAbs, gInt, gMax2, gMin2, L2.atI, L2.ixN, seqOf, Z.listOf, runS, Res.bind, Res.bindL, Res.bindB, ResL.bind, ResL.bindL, ResB.bind, ResB.bindB, Res.s, ResB.s, List.replicate, E0]
  have u1 : vCall (vFn 2 [0, 1] [] fn__law_reduced) (lCons (vBin gAdd (vBin gMul (vV 2) (vV 5)) (vBin gMul (vV 4) (vV 3))) (lCons (vBin gMul (vV 3) (vV 5)) (lNil))) E0 S = .ok (fr n1 e1) S :=
    call2 (x := .int (a * d + c * b)) (y := .int (b * d)) (S1 := S) (by simp [vV, vC, vBin, vUn, lNil, lCons, vTup, vLst, vEmp, vIf, vCall, vNot, vAnd, vOr, bOf, bAnd, bOr, bNot, bCmp, truth, sNil, sSeq, sSet, sEx, sRet, sIf, sPut, sSub, sPar, vFn, pick, Pat.put, Pat.puts, SRes.then, gAdd, Z.gSub, gMul_sm, gMod, gDiv, gPow, gNeg, gCmpI, gIx, gLen, gAbs, gInt, gMax2, gMin2, L2.atI, L2.ixN, seqOf, Z.listOf, runS, Res.bind, Res.bindL, Res.bindB, ResL.bind, ResL.bindL, ResB.bind, ResB.bindB, Res.s, ResB.s, List.replicate, sa, sb, sc, sd, E0]) (by simp [vV, vC, vBin, vUn, lNil, lCons, vTup, vLst, vEmp, vIf, vCall, vNot, vAnd, vOr, bOf, bAnd, bOr, bNot, bCmp, truth, sNil, sSeq, sSet, sEx, sRet, sIf, sPut, sSub, sPar, vFn, pick, Pat.put, Pat.puts, SRes.then, gAdd, Z.gSub, gMul_sm, gMod, gDiv, gPow, gNeg, gCmpI, gIx, gLen, gAbs, gInt, gMax2, gMin2, L2.atI, L2.ixN, seqOf, Z.listOf, runS, Res.bind, Res.bindL, Res.bindB, ResL.bind, ResL.bindL, ResB.bind, ResB.bindB, Res.s, ResB.s, List.replicate, sa, sb, sc, sd, E0]) (fn2 (r1 S))
  have u2 : vCall (vFn 2 [0, 1] [] fn__law_reduced) (lCons (vBin Z.gSub (vBin gMul (vV 2) (vV 5)) (vBin gMul (vV 4) (vV 3))) (lCons (vBin gMul (vV 3) (vV 5)) (lNil))) E0 S = .ok (fr n2 e2) S :=
    call2 (x := .int (a * d - c * b)) (y := .int (b * d)) (S1 := S) (by simp [vV, vC, vBin, vUn, lNil, lCons, vTup, vLst, vEmp, vIf, vCall, vNot, vAnd, vOr, bOf, bAnd, bOr, bNot, bCmp, truth, sNil, sSeq, sSet, sEx, sRet, sIf, sPut, sSub, sPar, vFn, pick, Pat.put, Pat.puts, SRes.then, gAdd, Z.gSub, gMul_sm, gMod, gDiv, gPow, gNeg, gCmpI, gIx, gLen, gAbs, gInt, gMax2, gMin2, L2.atI, L2.ixN, seqOf, Z.listOf, runS, Res.bind, Res.bindL, Res.bindB, ResL.bind, ResL.bindL, ResB.bind, ResB.bindB, Res.s, ResB.s, List.replicate, sa, sb, sc, sd, E0]) (by simp [vV, vC, vBin, vUn, lNil, lCons, vTup, vLst, vEmp, vIf, vCall, vNot, vAnd, vOr, bOf, bAnd, bOr, bNot, bCmp, truth, sNil, sSeq, sSet, sEx, sRet, sIf, sPut, sSub, sPar, vFn, pick, Pat.put, Pat.puts, SRes.then, gAdd, Z.gSub, gMul_sm, gMod, gDiv, gPow, gNeg, gCmpI, gIx, gLen, gAbs, gInt, gMax2, gMin2, L2.atI, L2.ixN, seqOf, Z.listOf, runS, Res.bind, Res.bindL, Res.bindB, ResL.bind, ResL.bindL, ResB.bind, ResB.bindB, Res.s, ResB.s, List.replicate, sa, sb, sc, sd, E0]) (fn2 (r2 S))
  have u3 : vCall (vFn 2 [0, 1] [] fn__law_reduced) (lCons (vBin gMul (vV 2) (vV 4)) (lCons (vBin gMul (vV 3) (vV 5)) (lNil))) E0 S = .ok (fr n3 e3) S :=
    call2 (x := .int (a * c)) (y := .int (b * d)) (S1 := S) (by simp [vV, vC, vBin, vUn, lNil, lCons, vTup, vLst, vEmp, vIf, vCall, vNot, vAnd, vOr, bOf, bAnd, bOr, bNot, bCmp, truth, sNil, sSeq, sSet, sEx, sRet, sIf, sPut, sSub, sPar, vFn, pick, Pat.put, Pat.puts, SRes.then, gAdd, Z.gSub, gMul_sm, gMod, gDiv, gPow, gNeg, gCmpI, gIx, gLen, gAbs, gInt, gMax2, gMin2, L2.atI, L2.ixN, seqOf, Z.listOf, runS, Res.bind, Res.bindL, Res.bindB, ResL.bind, ResL.bindL, ResB.bind, ResB.bindB, Res.s, ResB.s, List.replicate, sa, sb, sc, sd, E0]) (by simp [vV, vC, vBin, vUn, lNil, lCons, vTup, vLst, vEmp, vIf, vCall, vNot, vAnd, vOr, bOf, bAnd, bOr, bNot, bCmp, truth, sNil, sSeq, sSet, sEx, sRet, sIf, sPut, sSub, sPar, vFn, pick, Pat.put, Pat.puts, SRes.then, gAdd, Z.gSub, gMul_sm, gMod, gDiv, gPow, gNeg, gCmpI, gIx, gLen, gAbs, gInt, gMax2, gMin2, L2.atI, L2.ixN, seqOf, Z.listOf, runS, Res.bind, Res.bindL, Res.bindB, ResL.bind, ResL.bindL, ResB.bind, ResB.bindB, Res.s, ResB.s, List.replicate, sa, sb, sc, sd, E0]) (fn2 (r3 S))
  have b1 := lst3 u1 u2 u3
  have c1 : ∀ {F : List D → Sto → Res} {r : D} (E : Ev) (S : Sto), E[0]? = some (some (fr a b)) → E[1]? = some (some (fr c d)) → F [fr a b, fr c d] S = .ok r S → vCall (vFn 2 [0, 1] [] F) (lCons (vV 0) (lCons (vV 1) lNil)) E S = .ok r S := fun E S h0 h1 h => call2 (x := fr a b) (y := fr c d) (S1 := S) (by simp [vV, h0]) (by simp [vV, h1]) (fn2 h)
  have c2 : ∀ {F : List D → Sto → Res} {r : D} (E : Ev) (S : Sto), E[0]? = some (some (fr a b)) → E[1]? = some (some (fr c d)) → F [fr a b, fr c d] S = .ok r S → vCall (vFn 2 [1, 0] [] F) (lCons (vV 1) (lCons (vV 0) lNil)) E S = .ok r S := fun E S h0 h1 h => call2 (x := fr c d) (y := fr a b) (S1 := S) (by simp [vV, h1]) (by simp [vV, h0]) (fn2s h)
  have b2 := lst3 (c1 E1 S1 rfl rfl (p1 S1)) (c1 E1 S1 rfl rfl (p2 S1)) (c1 E1 S1 rfl rfl (p3 S1))
  have b3 := lst3 (c2 E2 S2 rfl rfl (p1 S2)) (c2 E2 S2 rfl rfl (p2 S2)) (c2 E2 S2 rfl rfl (p3 S2))
  have k6 : S3[S.length]? = some Lc := by simp [S3, S2, S1]
  have k7 : S3[S1.length]? = some Lc := by simp [S3, S2, S1]
  have k8 : S3[S2.length]? = some Lc := by simp [S3]
  have v6 : vCall gRepr (lCons (vV 6) lNil) E3 S3 = _ := call1 (d := .ref S.length) (S1 := S3) rfl (tb k6)
  have v7 : vCall gRepr (lCons (vV 7) lNil) E3 S3 = _ := call1 (d := .ref S1.length) (S1 := S3) rfl (tb k7)
  have v8 : vCall gRepr (lCons (vV 8) lNil) E3 S3 = _ := call1 (d := .ref S2.length) (S1 := S3) rfl (tb k8)
  have it7 : iSeq (vV 7) E3 S3 = .ok [fr n1 e1, fr n2 e2, fr n3 e3] (some S1.length) S3 := by
    show itSeq (.ref S1.length) S3 = _
    simp only [itSeq, k7, Lc]
  obtain ⟨U1, al⟩ := all_true (p := .nm 10) (own := [10]) (e := vCall (vFn 1 [0] [] fn_is_fraction) (lCons (vV 10) (lNil))) it7 (fun n h => by cases h; exact k7) (Nat.le_of_ble_eq_true rfl) (fun x hx => by
    refine ⟨[some (fr a b), some (fr c d), some (.int a), some (.int b), some (.int c), some (.int d), some (.ref S.length), some (.ref S1.length), some (.ref S2.length), none, some x], rfl, fun C => ⟨[], ?_⟩⟩
    rw [List.append_nil]
    refine call1 (d := x) rfl (fn1 ?_)
    simp only [List.mem_cons, List.not_mem_nil, or_false] at hx
    rcases hx with rfl | rfl | rfl
    · exact isf_ok pos1 g1
    · exact isf_ok pos2 g2
    · exact isf_ok pos3 g3)
  let S4 : Sto := S3 ++ U1
  let S5 : Sto := S4 ++ [Bc]
  let E4 : Ev := [some (fr a b), some (fr c d), some (.int a), some (.int b), some (.int c), some (.int d), some (.ref S.length), some (.ref S1.length), some (.ref S2.length), some (.ref S4.length), none]
  have b4 := lst2 (c1 E3 S4 rfl rfl (ls S4)) (c2 E3 S4 rfl rfl (ls S4))
  let S6 : Sto := S5 ++ [.lst [.bl lt]]
  let S7 : Sto := S6 ++ [Bc]
  have w1 : vCall gRepr (lCons (vV 9) lNil) E4 S5 = _ := call1 (d := .ref S4.length) (S1 := S5) rfl (tb2 (get_new S4 Bc))
  have w2 : vBin gLt (vBin gMul (vV 2) (vV 5)) (vBin gMul (vV 4) (vV 3)) E4 S5 = .ok (.bl lt) S5 := by
    simp [vV, vC, vBin, vUn, lNil, lCons, vTup, vLst, vEmp, vIf, vCall, vNot, vAnd, vOr, bOf, bAnd, bOr, bNot, bCmp, truth, sNil, sSeq, sSet, sEx, sRet, sIf, sPut, sSub, sPar, vFn, pick, Pat.put, Pat.puts, SRes.then, gAdd, Z.gSub, gMul_sm, gMod, gDiv, gPow, gNeg, gCmpI, gIx, gLen, gAbs, gInt, gMax2, gMin2, L2.atI, L2.ixN, seqOf, Z.listOf, runS, Res.bind, Res.bindL, Res.bindB, ResL.bind, ResL.bindL, ResB.bind, ResB.bindB, Res.s, ResB.s, List.replicate, sa, sb, sc, sd, E4, lt]
  have w3 : vCall gRepr (lCons (vBin gMul (vLst (lCons (vBin gLt (vBin gMul (vV 2) (vV 5)) (vBin gMul (vV 4) (vV 3))) (lNil))) (vC (.int 2))) (lNil)) E4 S5 = .ok (.str (PyData.list [.bool lt, .bool lt]).shown) S7 :=
    call1 (bin_ok (lst1 w2) rfl (mul_lst (xs := [.bl lt]) (get_new S5 _) (by decide) (by decide) (Nat.le_of_ble_eq_true rfl))) (tb2 (get_new S6 _))
  obtain ⟨U2, ov⟩ := over_right_ok (S := S7) F G
  let S8 : Sto := S7 ++ U2
  have w4 : vCall (vFn 2 [0, 1] [] fn__law_over_right) (lCons (vV 0) (lCons (vV 1) lNil)) E4 S7 = .ok (.bl true) S8 := call2 (x := fr a b) (y := fr c d) rfl rfl (fn2 ov)
  have z1 : vBin gEq (vCall (vFn 2 [0, 1] [] fn_minus) (lCons (vCall (vFn 2 [0, 1] [] fn_plus) (lCons (vV 0) (lCons (vV 1) (lNil)))) (lCons (vV 1) (lNil)))) (vV 0) E4 S8 = .ok (.bl true) S8 := by
    have hY : e1 * d ≠ 0 := Int.mul_ne_zero (by omega) hd
    have q := uniq (X := n1 * d - c * e1) (Y := e1 * d) hY F.d1 F.co (by
      rw [Int.sub_mul]
      have e1' : n1 * d * b = (a * d + c * b) * e1 := by rw [← x1, Int.mul_assoc, Int.mul_comm d b]
      rw [e1', Int.add_mul]
      have e2' : c * b * e1 = c * e1 * b := by rw [Int.mul_assoc, Int.mul_comm b, ← Int.mul_assoc]
      have e3' : a * d * e1 = a * (e1 * d) := by rw [Int.mul_assoc, Int.mul_comm d]
      rw [e2', e3']
      omega)
    refine bin_ok (x := fr a b) (S1 := S8) (call2 (x := fr n1 e1) (y := fr c d) (c1 E4 S8 rfl rfl (p1 S8)) rfl (fn2 ?_)) rfl (y := fr a b) (by rw [eq_tt]; simp)
    rw [minus_ok s1 t1 sc sd hY, q.1, q.2]
  have z2 : vOr (vBin gEq (vV 4) (vC (.int 0))) (vBin gEq (vCall (vFn 2 [0, 1] [] fn_over) (lCons (vCall (vFn 2 [0, 1] [] fn_times) (lCons (vV 0) (lCons (vV 1) (lNil)))) (lCons (vV 1) (lNil)))) (vV 0)) E4 S8 = .ok (.bl true) S8 := by
    by_cases hc : c = 0
    · refine or_t (bin_ok (x := .int c) (y := .int 0) rfl rfl ?_)
      rw [eq_ii, hc]
      rfl
    · have hY : e3 * c ≠ 0 := Int.mul_ne_zero (by omega) hc
      have q := uniq (X := n3 * d) (Y := e3 * c) hY F.d1 F.co (by
        rw [Int.mul_assoc, Int.mul_comm d b, x3, Int.mul_assoc, Int.mul_comm c e3])
      refine or_v (S1 := S8) (bin_ok (x := .int c) (y := .int 0) rfl rfl ?_) ?_
      · rw [eq_ii, beq_eq_false_iff_ne.mpr hc]
      · refine bin_ok (x := fr a b) (S1 := S8) (call2 (x := fr n3 e3) (y := fr c d) (c1 E4 S8 rfl rfl (p3 S8)) rfl (fn2 ?_)) rfl (y := fr a b) (by rw [eq_tt]; simp)
        rw [over_ok s3 t3 sc sd hc hY, q.1, q.2]
  refine ⟨[Lc] ++ [Lc] ++ [Lc] ++ U1 ++ [Bc] ++ [.lst [.bl lt]] ++ [Bc] ++ U2, run_ret ?_⟩
  refine (a0 _).trans ((seq_set b1).trans ((seq_set b2).trans ((seq_set b3).trans ((seq_no (or_ok (cmp_ok v7 v6 same_str) (or_ok (cmp_ok v8 v6 same_str) (not_of al)))).trans ((seq_set b4).trans ((seq_no (or_ok (cmp_ok w1 w3 same_str) (not_of w4))).trans ((one_ret (and_ok z1 z2)).trans ?_)))))))
  simp [S8, S7, S6, S5, S4, S3, S2, S1]
end P
namespace P
open PySem PySem.Spec PyProof.Rows L2 Z
abbrev Q2 := Int × Int
abbrev fq (q : Q2) : D := fr q.1 q.2
def stp (m q : Q2) : Q2 := (nn (m.1 * q.2 + q.1 * m.2) (m.2 * q.2), dd (m.1 * q.2 + q.1 * m.2) (m.2 * q.2))
structure FB (i : Nat) (q : Q2) : Prop where
  n : q.1.natAbs ≤ 2 ^ (41 * i)
  p : 1 ≤ q.2
  d : q.2.natAbs ≤ 2 ^ (41 * i)
theorem FB.sm1 {i : Nat} {q : Q2} (h : FB i q) (hi : i ≤ 20) : Sm q.1 := Nat.lt_of_le_of_lt h.n (Nat.pow_lt_pow_right (by decide) (by omega))
theorem FB.sm2 {i : Nat} {q : Q2} (h : FB i q) (hi : i ≤ 20) : Sm q.2 := Nat.lt_of_le_of_lt h.d (Nat.pow_lt_pow_right (by decide) (by omega))
theorem mulU {x y : Int} {i : Nat} (hx : x.natAbs ≤ 2 ^ (41 * i)) (hy : y.natAbs < 2 ^ 40) : (x * y).natAbs ≤ 2 ^ (41 * i) * 2 ^ 40 := by
  rw [Int.natAbs_mul]
  exact Nat.mul_le_mul hx (Nat.le_of_lt hy)
theorem topB {m q : Q2} {i : Nat} (h : FB i m) (F : Fra q.1 q.2) : (m.1 * q.2 + q.1 * m.2).natAbs ≤ 2 ^ (41 * (i + 1)) ∧ (m.2 * q.2).natAbs ≤ 2 ^ (41 * (i + 1)) := by
  have a1 := mulU h.n F.d2
  have a2 := mulU h.d F.nb
  have a3 := mulU h.d F.d2
  rw [Int.mul_comm m.2 q.1] at a2
  have e : 2 ^ (41 * (i + 1)) = 2 ^ (41 * i) * 2 ^ 40 * 2 := by
    rw [Nat.mul_add, Nat.mul_one, Nat.pow_add]
    omega
  rw [e]
  omega
theorem stpB {m q : Q2} {i : Nat} (h : FB i m) (F : Fra q.1 q.2) : FB (i + 1) (stp m q) := by
  have hY : m.2 * q.2 ≠ 0 := Int.mul_ne_zero (by have := h.p; omega) (by have := F.d1; omega)
  obtain ⟨t1, t2⟩ := topB h F
  exact ⟨Nat.le_trans (nn_le hY) t1, dd_pos hY, Nat.le_trans (dd_le hY) t2⟩
theorem smU {x : Int} {i : Nat} (h : x.natAbs ≤ 2 ^ (41 * i)) (hi : i ≤ 20) : Sm x := Nat.lt_of_le_of_lt h (Nat.pow_lt_pow_right (by decide) (by omega))
theorem plus_st {m q : Q2} {i : Nat} {S : Sto} (h : FB i m) (F : Fra q.1 q.2) (hi : i ≤ 10) : fn_plus [fq m, fq q] S = .ok (fq (stp m q)) S :=
  plus_ok (h.sm1 (by omega)) (h.sm2 (by omega)) (sm40 F.nb) (sm40 F.d2) (Int.mul_ne_zero (by have := h.p; omega) (by have := F.d1; omega))
theorem sum_for (all : List D) (E0 : Option D) {S : Sto} : ∀ (rest : List Q2) (i : Nat) (m : Q2) (x : Option D), FB i m → i + rest.length ≤ 10 → (∀ q ∈ rest, Fra q.1 q.2) →
    ∃ y, forS (.nm 2) (sSeq (sSet 1 (vCall (vFn 2 [0, 1] [] fn_plus) (lCons (vV 1) (lCons (vV 2) (lNil))))) (sNil)) none all (rest.map fq) [E0, some (fq m), x] S = .nx [E0, some (fq (rest.foldl stp m)), y] S
  | [], i, m, x, _, _, _ => ⟨x, by
      show forS _ _ _ _ [] _ _ = _
      unfold forS
      rw [srcIf_none]
      rfl⟩
  | q :: r, i, m, x, h, hi, hF => by
    have F := hF q List.mem_cons_self
    have hi2 : i + (r.length + 1) ≤ 10 := hi
    obtain ⟨y, e⟩ := sum_for all E0 (S := S) r (i + 1) (stp m q) (some (fq q)) (stpB h F) (by omega) (fun z hz => hF z (List.mem_cons_of_mem _ hz))
    refine ⟨y, ?_⟩
    show forS _ _ _ _ (fq q :: r.map fq) _ _ = _
    unfold forS
    rw [srcIf_none]
    have e0 : Pat.put (.nm 2) (fq q) [E0, some (fq m), x] = some [E0, some (fq m), some (fq q)] := rfl
    have e1 : sSeq (sSet 1 (vCall (vFn 2 [0, 1] [] fn_plus) (lCons (vV 1) (lCons (vV 2) (lNil))))) (sNil) [E0, some (fq m), some (fq q)] S = .nx [E0, some (fq (stp m q)), some (fq q)] S :=
      seq_set (call2 (x := fq m) (y := fq q) rfl rfl (fn2 (plus_st h F (by omega))))
    rw [e0]
    simp only [e1]
    exact e
theorem fb0 : FB 0 (0, 1) := ⟨by decide, by decide, by decide⟩
theorem sum_ok {row : List Q2} {S : Sto} (hl : row.length ≤ 9) (hF : ∀ q ∈ row, Fra q.1 q.2) : fn_sum_of [.tup (row.map fq)] S = .ok (fq (row.foldl stp (0, 1))) S := by
  obtain ⟨y, e⟩ := sum_for (row.map fq) (some (.tup (row.map fq))) (S := S) row 0 (0, 1) none fb0 (by omega) hF
  refine run_ret ((seq_set (f := vC (.tup [.int 0, .int 1])) rfl).trans ((seq_for (it := iSeq (vV 0)) (S1 := S) (ds := row.map fq) (src := none) rfl e).trans (one_ret rfl)))
theorem row_for (all : List D) (E0 : Option D) {S : Sto} : ∀ (rest : List Q2) (i : Nat) (m : Q2) (x2 x3 x4 x5 : Option D), FB i m → i + rest.length ≤ 10 → (∀ q ∈ rest, Fra q.1 q.2) →
    ∃ y2 y3, forS (.tp [.nm 2, .nm 3]) (sSeq (sSet 1 (vCall (vFn 2 [0, 1] [] fn__law_reduced) (lCons (vBin gAdd (vBin gMul (vBin gIx (vV 1) (vC (.int 0))) (vV 3)) (vBin gMul (vV 2) (vBin gIx (vV 1) (vC (.int 1))))) (lCons (vBin gMul (vBin gIx (vV 1) (vC (.int 1))) (vV 3)) (lNil))))) (sNil)) none all (rest.map fq) [E0, some (fq m), x2, x3, x4, x5] S = .nx [E0, some (fq (rest.foldl stp m)), y2, y3, x4, x5] S
  | [], i, m, x2, x3, x4, x5, _, _, _ => ⟨x2, x3, by
      show forS _ _ _ _ [] _ _ = _
      unfold forS
      rw [srcIf_none]
      rfl⟩
  | q :: r, i, m, x2, x3, x4, x5, h, hi, hF => by
    have F := hF q List.mem_cons_self
    have hi2 : i + (r.length + 1) ≤ 10 := hi
    obtain ⟨y2, y3, e⟩ := row_for all E0 (S := S) r (i + 1) (stp m q) (some (.int q.1)) (some (.int q.2)) x4 x5 (stpB h F) (by omega) (fun z hz => hF z (List.mem_cons_of_mem _ hz))
    refine ⟨y2, y3, ?_⟩
    show forS _ _ _ _ (fq q :: r.map fq) _ _ = _
    unfold forS
    rw [srcIf_none]
    have e0 : Pat.put (.tp [.nm 2, .nm 3]) (fq q) [E0, some (fq m), x2, x3, x4, x5] = some [E0, some (fq m), some (.int q.1), some (.int q.2), x4, x5] := rfl
    have hY : m.2 * q.2 ≠ 0 := Int.mul_ne_zero (by have := h.p; omega) (by have := F.d1; omega)
    have s1 := h.sm1 (by omega)
    have s2 := h.sm2 (by omega)
    have s3 := sm40 F.nb
    have s4 := sm40 F.d2
    obtain ⟨t1, t2⟩ := topB h F
    have rd := reduced_ok (t := m.1 * q.2 + q.1 * m.2) (l := m.2 * q.2) S hY (smU t1 (by omega)) (smU t2 (by omega))
    have e1 : sSeq (sSet 1 (vCall (vFn 2 [0, 1] [] fn__law_reduced) (lCons (vBin gAdd (vBin gMul (vBin gIx (vV 1) (vC (.int 0))) (vV 3)) (vBin gMul (vV 2) (vBin gIx (vV 1) (vC (.int 1))))) (lCons (vBin gMul (vBin gIx (vV 1) (vC (.int 1))) (vV 3)) (lNil))))) (sNil) [E0, some (fq m), some (.int q.1), some (.int q.2), x4, x5] S = .nx [E0, some (fq (stp m q)), some (.int q.1), some (.int q.2), x4, x5] S :=
      seq_set (call2 (x := .int (m.1 * q.2 + q.1 * m.2)) (y := .int (m.2 * q.2)) (S1 := S) (by simp [vV, vC, vBin, vUn, lNil, lCons, vTup, vLst, vEmp, vIf, vCall, vNot, vAnd, vOr, bOf, bAnd, bOr, bNot, bCmp, truth, sNil, sSeq, sSet, sEx, sRet, sIf, sPut, sSub, sPar, vFn, pick, Pat.put, Pat.puts, SRes.then, gAdd, Z.gSub, gMul_sm, gMod, gDiv, gPow, gNeg, gCmpI, gIx, gLen, gAbs, gInt, gMax2, gMin2, L2.atI, L2.ixN, seqOf, Z.listOf, runS, Res.bind, Res.bindL, Res.bindB, ResL.bind, ResL.bindL, ResB.bind, ResB.bindB, Res.s, ResB.s, List.replicate, s1, s2, s3, s4]) (by simp [vV, vC, vBin, vUn, lNil, lCons, vTup, vLst, vEmp, vIf, vCall, vNot, vAnd, vOr, bOf, bAnd, bOr, bNot, bCmp, truth, sNil, sSeq, sSet, sEx, sRet, sIf, sPut, sSub, sPar, vFn, pick, Pat.put, Pat.puts, SRes.then, gAdd, Z.gSub, gMul_sm, gMod, gDiv, gPow, gNeg, gCmpI, gIx, gLen, gAbs, gInt, gMax2, gMin2, L2.atI, L2.ixN, seqOf, Z.listOf, runS, Res.bind, Res.bindL, Res.bindB, ResL.bind, ResL.bindL, ResB.bind, ResB.bindB, Res.s, ResB.s, List.replicate, s1, s2, s3, s4]) (fn2 rd))
    rw [e0]
    simp only [e1]
    exact e
/-- no greater -/
def le2 (q r : Q2) : Prop := q.1 * r.2 ≤ r.1 * q.2
theorem le2_trans {q r s : Q2} (hq : 1 ≤ q.2) (hr : 1 ≤ r.2) (hs : 1 ≤ s.2) (h1 : le2 q r) (h2 : le2 r s) : le2 q s := by
  unfold le2 at *
  have a1 : q.1 * r.2 * s.2 ≤ r.1 * q.2 * s.2 := Int.mul_le_mul_of_nonneg_right h1 (by omega)
  have a2 : r.1 * s.2 * q.2 ≤ s.1 * r.2 * q.2 := Int.mul_le_mul_of_nonneg_right h2 (by omega)
  have e1 : r.1 * q.2 * s.2 = r.1 * s.2 * q.2 := by rw [Int.mul_assoc, Int.mul_comm q.2, ← Int.mul_assoc]
  have e2 : q.1 * r.2 * s.2 = q.1 * s.2 * r.2 := by rw [Int.mul_assoc, Int.mul_comm r.2, ← Int.mul_assoc]
  have e3 : s.1 * r.2 * q.2 = s.1 * q.2 * r.2 := by rw [Int.mul_assoc, Int.mul_comm r.2, ← Int.mul_assoc]
  rw [e2, e1] at a1
  rw [e3] at a2
  exact Int.le_of_mul_le_mul_right (Int.le_trans a1 a2) (by omega)
theorem least_for (all : List D) (E0 : Option D) {S : Sto} : ∀ (rest : List Q2) (m : Q2) (x : Option D), Fra m.1 m.2 → (∀ q ∈ rest, Fra q.1 q.2) →
    ∃ y r, (r = m ∨ r ∈ rest) ∧ le2 r m ∧ (∀ q ∈ rest, le2 r q) ∧ forS (.nm 2) (sSeq (sIf (bOf (vCall (vFn 2 [0, 1] [] fn_is_less) (lCons (vV 2) (lCons (vV 1) (lNil))))) (sSeq (sSet 1 (vV 2)) (sNil)) (sNil)) (sNil)) none all (rest.map fq) [E0, some (fq m), x] S = .nx [E0, some (fq r), y] S
  | [], m, x, _, _ => ⟨x, m, .inl rfl, Int.le_refl _, fun q h => (by cases h), by
      show forS _ _ _ _ [] _ _ = _
      unfold forS
      rw [srcIf_none]⟩
  | q :: r, m, x, hm, hF => by
    have F := hF q List.mem_cons_self
    have ls : fn_is_less [fq q, fq m] S = _ := less_ok (sm40 F.nb) (sm40 F.d2) (sm40 hm.nb) (sm40 hm.d2)
    have e0 : Pat.put (.nm 2) (fq q) [E0, some (fq m), x] = some [E0, some (fq m), some (fq q)] := rfl
    have c0 : vCall (vFn 2 [0, 1] [] fn_is_less) (lCons (vV 2) (lCons (vV 1) (lNil))) [E0, some (fq m), some (fq q)] S = .ok (.bl (decide (q.1 * m.2 < m.1 * q.2))) S := call2 (x := fq q) (y := fq m) rfl rfl (fn2 ls)
    by_cases hlt : q.1 * m.2 < m.1 * q.2
    · obtain ⟨y, z, h1, h2, h3, e⟩ := least_for all E0 (S := S) r q (some (fq q)) F (fun z hz => hF z (List.mem_cons_of_mem _ hz))
      have pz : 1 ≤ z.2 := by
        rcases h1 with rfl | h1
        · exact F.d1
        · exact (hF z (List.mem_cons_of_mem _ h1)).d1
      refine ⟨y, z, .inr ?_, le2_trans pz F.d1 hm.d1 h2 (Int.le_of_lt hlt), fun w hw => ?_, ?_⟩
      · rcases h1 with rfl | h1
        · exact List.mem_cons_self
        · exact List.mem_cons_of_mem _ h1
      · rcases List.mem_cons.mp hw with rfl | hw
        · exact h2
        · exact h3 w hw
      · show forS _ _ _ _ (fq q :: r.map fq) _ _ = _
        unfold forS
        rw [srcIf_none, e0]
        have e1 : sSeq (sIf (bOf (vCall (vFn 2 [0, 1] [] fn_is_less) (lCons (vV 2) (lCons (vV 1) (lNil))))) (sSeq (sSet 1 (vV 2)) (sNil)) (sNil)) (sNil) [E0, some (fq m), some (fq q)] S = .nx [E0, some (fq q), some (fq q)] S := by
          simp [sSeq, sIf, sSet, sNil, bOf, c0, hlt, truth, vV, Res.s, ResB.s, Res.bindB, SRes.then]
        simp only [e1]
        exact e
    · obtain ⟨y, z, h1, h2, h3, e⟩ := least_for all E0 (S := S) r m (some (fq q)) hm (fun z hz => hF z (List.mem_cons_of_mem _ hz))
      have pz : 1 ≤ z.2 := by
        rcases h1 with rfl | h1
        · exact hm.d1
        · exact (hF z (List.mem_cons_of_mem _ h1)).d1
      have hmq : le2 m q := Int.not_lt.mp hlt
      refine ⟨y, z, h1.imp_right (List.mem_cons_of_mem _), h2, fun w hw => ?_, ?_⟩
      · rcases List.mem_cons.mp hw with rfl | hw
        · exact le2_trans pz hm.d1 F.d1 h2 hmq
        · exact h3 w hw
      · show forS _ _ _ _ (fq q :: r.map fq) _ _ = _
        unfold forS
        rw [srcIf_none, e0]
        have e1 : sSeq (sIf (bOf (vCall (vFn 2 [0, 1] [] fn_is_less) (lCons (vV 2) (lCons (vV 1) (lNil))))) (sSeq (sSet 1 (vV 2)) (sNil)) (sNil)) (sNil) [E0, some (fq m), some (fq q)] S = .nx [E0, some (fq m), some (fq q)] S := by
          simp [sSeq, sIf, sNil, bOf, c0, hlt, truth, ResB.s, Res.bindB, SRes.then]
        simp only [e1]
        exact e
theorem great_for (all : List D) (E0 : Option D) {S : Sto} : ∀ (rest : List Q2) (m : Q2) (x : Option D), Fra m.1 m.2 → (∀ q ∈ rest, Fra q.1 q.2) →
    ∃ y r, (r = m ∨ r ∈ rest) ∧ le2 m r ∧ (∀ q ∈ rest, le2 q r) ∧ forS (.nm 2) (sSeq (sIf (bOf (vCall (vFn 2 [0, 1] [] fn_is_less) (lCons (vV 1) (lCons (vV 2) (lNil))))) (sSeq (sSet 1 (vV 2)) (sNil)) (sNil)) (sNil)) none all (rest.map fq) [E0, some (fq m), x] S = .nx [E0, some (fq r), y] S
  | [], m, x, _, _ => ⟨x, m, .inl rfl, Int.le_refl _, fun q h => (by cases h), by
      show forS _ _ _ _ [] _ _ = _
      unfold forS
      rw [srcIf_none]⟩
  | q :: r, m, x, hm, hF => by
    have F := hF q List.mem_cons_self
    have ls : fn_is_less [fq m, fq q] S = _ := less_ok (sm40 hm.nb) (sm40 hm.d2) (sm40 F.nb) (sm40 F.d2)
    have e0 : Pat.put (.nm 2) (fq q) [E0, some (fq m), x] = some [E0, some (fq m), some (fq q)] := rfl
    have c0 : vCall (vFn 2 [0, 1] [] fn_is_less) (lCons (vV 1) (lCons (vV 2) (lNil))) [E0, some (fq m), some (fq q)] S = .ok (.bl (decide (m.1 * q.2 < q.1 * m.2))) S := call2 (x := fq m) (y := fq q) rfl rfl (fn2 ls)
    by_cases hlt : m.1 * q.2 < q.1 * m.2
    · obtain ⟨y, z, h1, h2, h3, e⟩ := great_for all E0 (S := S) r q (some (fq q)) F (fun z hz => hF z (List.mem_cons_of_mem _ hz))
      have pz : 1 ≤ z.2 := by
        rcases h1 with rfl | h1
        · exact F.d1
        · exact (hF z (List.mem_cons_of_mem _ h1)).d1
      refine ⟨y, z, .inr ?_, le2_trans hm.d1 F.d1 pz (Int.le_of_lt hlt) h2, fun w hw => ?_, ?_⟩
      · rcases h1 with rfl | h1
        · exact List.mem_cons_self
        · exact List.mem_cons_of_mem _ h1
      · rcases List.mem_cons.mp hw with rfl | hw
        · exact h2
        · exact h3 w hw
      · show forS _ _ _ _ (fq q :: r.map fq) _ _ = _
        unfold forS
        rw [srcIf_none, e0]
        have e1 : sSeq (sIf (bOf (vCall (vFn 2 [0, 1] [] fn_is_less) (lCons (vV 1) (lCons (vV 2) (lNil))))) (sSeq (sSet 1 (vV 2)) (sNil)) (sNil)) (sNil) [E0, some (fq m), some (fq q)] S = .nx [E0, some (fq q), some (fq q)] S := by
          simp [sSeq, sIf, sSet, sNil, bOf, c0, hlt, truth, vV, Res.s, ResB.s, Res.bindB, SRes.then]
        simp only [e1]
        exact e
    · obtain ⟨y, z, h1, h2, h3, e⟩ := great_for all E0 (S := S) r m (some (fq q)) hm (fun z hz => hF z (List.mem_cons_of_mem _ hz))
      have pz : 1 ≤ z.2 := by
        rcases h1 with rfl | h1
        · exact hm.d1
        · exact (hF z (List.mem_cons_of_mem _ h1)).d1
      have hmq : le2 q m := Int.not_lt.mp hlt
      refine ⟨y, z, h1.imp_right (List.mem_cons_of_mem _), h2, fun w hw => ?_, ?_⟩
      · rcases List.mem_cons.mp hw with rfl | hw
        · exact le2_trans F.d1 hm.d1 pz hmq h2
        · exact h3 w hw
      · show forS _ _ _ _ (fq q :: r.map fq) _ _ = _
        unfold forS
        rw [srcIf_none, e0]
        have e1 : sSeq (sIf (bOf (vCall (vFn 2 [0, 1] [] fn_is_less) (lCons (vV 1) (lCons (vV 2) (lNil))))) (sSeq (sSet 1 (vV 2)) (sNil)) (sNil)) (sNil) [E0, some (fq m), some (fq q)] S = .nx [E0, some (fq m), some (fq q)] S := by
          simp [sSeq, sIf, sNil, bOf, c0, hlt, truth, ResB.s, Res.bindB, SRes.then]
        simp only [e1]
        exact e
theorem least_ok {q : Q2} {r : List Q2} {S : Sto} (hF : ∀ x ∈ q :: r, Fra x.1 x.2) : ∃ z, z ∈ q :: r ∧ (∀ x ∈ q :: r, le2 z x) ∧ fn_least_of [.tup ((q :: r).map fq)] S = .ok (fq z) S := by
  obtain ⟨y, z, h1, h2, h3, e⟩ := least_for ((q :: r).map fq) (some (.tup ((q :: r).map fq))) (S := S) (q :: r) q none (hF q List.mem_cons_self) hF
  refine ⟨z, ?_, h3, ?_⟩
  · rcases h1 with rfl | h1
    · exact List.mem_cons_self
    · exact h1
  · have e0 : vBin gIx (vV 0) (vC (.int 0)) [some (.tup ((q :: r).map fq)), none, none] S = .ok (fq q) S := by
      simp [vV, vC, vBin, vUn, lNil, lCons, vTup, vLst, vEmp, vIf, vCall, vNot, vAnd, vOr, bOf, bAnd, bOr, bNot, bCmp, truth, sNil, sSeq, sSet, sEx, sRet, sIf, sPut, sSub, sPar, vFn, pick, Pat.put, Pat.puts, SRes.then, gAdd, Z.gSub, gMul_sm, gMod, gDiv, gPow, gNeg, gCmpI, gIx, gLen, gAbs, gInt, gMax2, gMin2, L2.atI, L2.ixN, seqOf, Z.listOf, runS, Res.bind, Res.bindL, Res.bindB, ResL.bind, ResL.bindL, ResB.bind, ResB.bindB, Res.s, ResB.s, List.replicate]
    exact run_ret ((seq_set e0).trans ((seq_for (it := iSeq (vV 0)) (S1 := S) (ds := (q :: r).map fq) (src := none) rfl e).trans (one_ret rfl)))
theorem great_ok {q : Q2} {r : List Q2} {S : Sto} (hF : ∀ x ∈ q :: r, Fra x.1 x.2) : ∃ z, z ∈ q :: r ∧ (∀ x ∈ q :: r, le2 x z) ∧ fn_greatest_of [.tup ((q :: r).map fq)] S = .ok (fq z) S := by
  obtain ⟨y, z, h1, h2, h3, e⟩ := great_for ((q :: r).map fq) (some (.tup ((q :: r).map fq))) (S := S) (q :: r) q none (hF q List.mem_cons_self) hF
  refine ⟨z, ?_, h3, ?_⟩
  · rcases h1 with rfl | h1
    · exact List.mem_cons_self
    · exact h1
  · have e0 : vBin gIx (vV 0) (vC (.int 0)) [some (.tup ((q :: r).map fq)), none, none] S = .ok (fq q) S := by
      simp [vV, vC, vBin, vUn, lNil, lCons, vTup, vLst, vEmp, vIf, vCall, vNot, vAnd, vOr, bOf, bAnd, bOr, bNot, bCmp, truth, sNil, sSeq, sSet, sEx, sRet, sIf, sPut, sSub, sPar, vFn, pick, Pat.put, Pat.puts, SRes.then, gAdd, Z.gSub, gMul_sm, gMod, gDiv, gPow, gNeg, gCmpI, gIx, gLen, gAbs, gInt, gMax2, gMin2, L2.atI, L2.ixN, seqOf, Z.listOf, runS, Res.bind, Res.bindL, Res.bindB, ResL.bind, ResL.bindL, ResB.bind, ResB.bindB, Res.s, ResB.s, List.replicate]
    exact run_ret ((seq_set e0).trans ((seq_for (it := iSeq (vV 0)) (S1 := S) (ds := (q :: r).map fq) (src := none) rfl e).trans (one_ret rfl)))
theorem fold_fb : ∀ (rest : List Q2) (i : Nat) (m : Q2), FB i m → (∀ q ∈ rest, Fra q.1 q.2) → FB (i + rest.length) (rest.foldl stp m)
  | [], _, _, h, _ => h
  | q :: r, i, m, h, hF => by
    have e := fold_fb r (i + 1) (stp m q) (stpB h (hF q List.mem_cons_self)) (fun z hz => hF z (List.mem_cons_of_mem _ hz))
    have e2 : i + (q :: r).length = i + 1 + r.length := by simp; omega
    rw [e2]
    exact e
def pq (q : Q2) : PyData := .tuple [.int q.1, .int q.2]
theorem opt_map (S : Sto) (k : Nat) : ∀ row : List Q2, optAll (toPD S (k + 2)) (row.map fq) = some (row.map pq)
  | [] => rfl
  | q :: r => by
    show optAll (toPD S (k + 2)) (fq q :: r.map fq) = some (pq q :: r.map pq)
    unfold optAll
    rw [opt_map S k r]
    rfl
theorem pq_lay : ∀ row : List Q2, PyData.canLayAll0 (row.map pq) = true
  | [] => rfl
  | q :: r => by
    show PyData.canLayAll0 (pq q :: r.map pq) = true
    unfold PyData.canLayAll0
    rw [pq_lay r]
    rfl
theorem pq_dep : ∀ row : List Q2, PyData.depthAll (row.map pq) ≤ 1
  | [] => by decide
  | q :: r => by
    show PyData.depthAll (pq q :: r.map pq) ≤ 1
    unfold PyData.depthAll
    exact Nat.max_le.mpr ⟨Nat.le_of_ble_eq_true rfl, pq_dep r⟩
theorem in_row {row : List Q2} {z : Q2} {S : Sto} (h : z ∈ row) : gInP true (fq z) (.tup (row.map fq)) S = .ok (.bl false) S := by
  have e1 : toPD S 60 (fq z) = some (pq z) := rfl
  have e2 : toPD S 60 (.tup (row.map fq)) = some (.tuple (row.map pq)) := by
    show (optAll (toPD S 59) (row.map fq)).map PyData.tuple = _
    rw [opt_map S 57]
    rfl
  have s1 : SeqAt.shaped (pq z) = true := rfl
  have s2 : SeqAt.shaped (.tuple (row.map pq)) = true := by
    unfold SeqAt.shaped
    have d : (PyData.tuple (row.map pq)).depth ≤ 64 := by
      have := pq_dep row
      simp only [PyData.depth]
      omega
    rw [decide_eq_true d]
    simp only [PyData.canLay0, pq_lay, Bool.and_self]
  have an : ((row.map pq).any fun y => PyData.eqv y (pq z)) = true := by
    rw [List.any_eq_true]
    refine ⟨pq z, List.mem_map.mpr ⟨z, h, rfl⟩, ?_⟩
    simp [pq, PyData.eqv, PyData.eqvAll]
  simp only [gInP, e1, e2, s1, s2, an]
  rfl
theorem row_ok {q : Q2} {r : List Q2} {S : Sto} (hl : (q :: r).length ≤ 9) (hF : ∀ x ∈ q :: r, Fra x.1 x.2) : ∃ U, fn__law_row_right [.tup ((q :: r).map fq)] S = .ok (.bl true) (S ++ U) := by
  let row : D := .tup ((q :: r).map fq)
  obtain ⟨y2, y3, e1⟩ := row_for ((q :: r).map fq) (some row) (S := S) (q :: r) 0 (0, 1) none none none none fb0 (by omega) hF
  obtain ⟨m, hm⟩ : ∃ m, m = (q :: r).foldl stp (0, 1) := ⟨_, rfl⟩
  have fb : FB (0 + (q :: r).length) m := hm ▸ fold_fb (q :: r) 0 (0, 1) fb0 hF
  have s1 : Sm m.1 := fb.sm1 (by omega)
  have s2 : Sm m.2 := fb.sm2 (by omega)
  have su : ∀ S, fn_sum_of [row] S = .ok (fq m) S := fun S => hm ▸ sum_ok hl hF
  rw [← hm] at e1
  let E1 : Ev := [some row, some (fq m), y2, y3, none, none]
  let S1 : Sto := S ++ [.lst [fq m, fq m]]
  let S2 : Sto := S1 ++ [.lst [fq m]]
  let S3 : Sto := S2 ++ [.lst [fq m, fq m]]
  have tb : ∀ {S : Sto} {n : Nat}, S[n]? = some (.lst [fq m, fq m]) → gRepr [.ref n] S = .ok (.str (PyData.list [.tuple [.int m.1, .int m.2], .tuple [.int m.1, .int m.2]]).shown) S := fun {S n} h =>
    shows (k := 2) (by simp [toPD, h, optAll]) (ti_lst (tia_cons (fr_ti s1 s2) (tia_cons (fr_ti s1 s2) tia_nil))) (by decide) (by decide)
  have c1 : vCall (vFn 1 [0] [] fn_sum_of) (lCons (vV 0) lNil) E1 S = .ok (fq m) S := call1 (d := row) rfl (fn1 (su S))
  have v1 : vCall gRepr (lCons (vLst (lCons (vCall (vFn 1 [0] [] fn_sum_of) (lCons (vV 0) (lNil))) (lCons (vCall (vFn 1 [0] [] fn_sum_of) (lCons (vV 0) (lNil))) (lNil)))) lNil) E1 S = _ := call1 (lst2 c1 c1) (tb (get_new S _))
  have v2 : vCall gRepr (lCons (vBin gMul (vLst (lCons (vV 1) (lNil))) (vC (.int 2))) lNil) E1 S1 = .ok _ S3 := call1 (bin_ok (lst1 (d := fq m) rfl) rfl (mul_lst (xs := [fq m]) (get_new S1 _) (by decide) (by decide) (Nat.le_of_ble_eq_true rfl))) (tb (get_new S2 _))
  obtain ⟨z, hz, zl, le⟩ := least_ok (S := S3) hF
  obtain ⟨w, hw, wl, ge⟩ := great_ok (S := S3) hF
  let E2 : Ev := [some row, some (fq m), y2, y3, some (fq z), some (fq w)]
  have k1 : ∀ E : Ev, E[0]? = some (some row) → vCall (vFn 1 [0] [] fn_least_of) (lCons (vV 0) lNil) E S3 = .ok (fq z) S3 := fun E h => call1 (d := row) (S1 := S3) (by simp [vV, h]) (fn1 le)
  have k2 : ∀ E : Ev, E[0]? = some (some row) → vCall (vFn 1 [0] [] fn_greatest_of) (lCons (vV 0) lNil) E S3 = .ok (fq w) S3 := fun E h => call1 (d := row) (S1 := S3) (by simp [vV, h]) (fn1 ge)
  have p4 : ∀ R : FS, sSeq (sPut (.tp [.nm 4, .nm 5]) (vTup (lCons (vCall (vFn 1 [0] [] fn_least_of) (lCons (vV 0) (lNil))) (lCons (vCall (vFn 1 [0] [] fn_greatest_of) (lCons (vV 0) (lNil))) (lNil))))) R E1 S3 = R E2 S3 := fun R => by
    have q := tup2 (k1 E1 rfl) (k2 E1 rfl)
    unfold sSeq sPut
    rw [q]
    rfl
  have Fz := hF z hz
  have Fw := hF w hw
  have n1 : bCmp gNe (vV 4) (vCall (vFn 1 [0] [] fn_least_of) (lCons (vV 0) (lNil))) E2 S3 = .ok false S3 := cmp_ok (x := fq z) rfl (k1 E2 rfl) (by rw [ne_tt]; simp)
  have n2 : bCmp gNe (vV 5) (vCall (vFn 1 [0] [] fn_greatest_of) (lCons (vV 0) (lNil))) E2 S3 = .ok false S3 := cmp_ok (x := fq w) rfl (k2 E2 rfl) (by rw [ne_tt]; simp)
  have n3 : bCmp (gInP true) (vV 4) (vV 0) E2 S3 = .ok false S3 := cmp_ok (x := fq z) (y := row) rfl rfl (in_row hz)
  have n4 : bCmp (gInP true) (vV 5) (vV 0) E2 S3 = .ok false S3 := cmp_ok (x := fq w) (y := row) rfl rfl (in_row hw)
  obtain ⟨U, al⟩ := all_true (it := iSeq (vV 0)) (p := .tp [.nm 2, .nm 3]) (own := [2, 3]) (E := E2) (S := S3) (A := S3) (all := (q :: r).map fq) (src := none) (e := vAnd (vBin gLe (vBin gMul (vBin gIx (vV 4) (vC (.int 0))) (vV 3)) (vBin gMul (vV 2) (vBin gIx (vV 4) (vC (.int 1))))) (vBin gLe (vBin gMul (vV 2) (vBin gIx (vV 5) (vC (.int 1)))) (vBin gMul (vBin gIx (vV 5) (vC (.int 0))) (vV 3)))) rfl (fun n h => by cases h) (by rw [List.length_map]; omega) (fun d hd => by
    obtain ⟨x, hx, rfl⟩ := List.mem_map.mp hd
    have Fx := hF x hx
    refine ⟨[some row, some (fq m), some (.int x.1), some (.int x.2), some (fq z), some (fq w)], rfl, fun C => ⟨[], ?_⟩⟩
    rw [List.append_nil]
    have a1 : z.1 * x.2 ≤ x.1 * z.2 := zl x hx
    have a2 : x.1 * w.2 ≤ w.1 * x.2 := wl x hx
    simp [vV, vC, vBin, vUn, lNil, lCons, vTup, vLst, vEmp, vIf, vCall, vNot, vAnd, vOr, bOf, bAnd, bOr, bNot, bCmp, truth, sNil, sSeq, sSet, sEx, sRet, sIf, sPut, sSub, sPar, vFn, pick, Pat.put, Pat.puts, SRes.then, gAdd, Z.gSub, gMul_sm, gMod, gDiv, gPow, gNeg, gCmpI, gIx, gLen, gAbs, gInt, gMax2, gMin2, L2.atI, L2.ixN, seqOf, Z.listOf, runS, Res.bind, Res.bindL, Res.bindB, ResL.bind, ResL.bindL, ResB.bind, ResB.bindB, Res.s, ResB.s, List.replicate, sm40 Fx.nb, sm40 Fx.d2, sm40 Fz.nb, sm40 Fz.d2, sm40 Fw.nb, sm40 Fw.d2, a1, a2])
  refine ⟨[.lst [fq m, fq m]] ++ [.lst [fq m]] ++ [.lst [fq m, fq m]] ++ U, run_ret ?_⟩
  have st0 : ∀ R : FS, sSeq (sSet 1 (vTup (lCons (vC (.int 0)) (lCons (vC (.int 1)) (lNil))))) R [some row, none, none, none, none, none] S = R [some row, some (fq (0, 1)), none, none, none, none] S := fun R => seq_set (tup2 rfl rfl)
  refine (st0 _).trans ((seq_for (it := iSeq (vV 0)) (S1 := S) (ds := (q :: r).map fq) (src := none) rfl e1).trans ((seq_no (cmp_ok v1 v2 same_str)).trans ((p4 _).trans ((seq_no (or_ok n1 (or_ok n2 (or_ok n3 n4)))).trans ((one_ret al).trans ?_)))))
  simp [S3, S2, S1]
end P
namespace P
open PySem PySem.Spec PyProof.Rows L2 Z
def Pre (S0 S : Sto) : Prop := ∃ U, S = S0 ++ U
theorem Pre.refl (S : Sto) : Pre S S := ⟨[], (List.append_nil _).symm⟩
theorem Pre.app {S0 S : Sto} (h : Pre S0 S) (T : Sto) : Pre S0 (S ++ T) := by
  obtain ⟨U, rfl⟩ := h
  exact ⟨U ++ T, List.append_assoc _ _ _⟩
theorem Pre.set {S0 S : Sto} (h : Pre S0 S) {p : Nat} (hp : S0.length ≤ p) (c : Cell) : Pre S0 (S.set p c) := by
  obtain ⟨U, rfl⟩ := h
  exact ⟨U.set (p - S0.length) c, by rw [List.set_append_right _ _ hp]⟩
theorem Pre.fr {S0 S S' : Sto} {p : Nat} (h : Pre S0 S) (hp : S0.length ≤ p) (F : Fr p S S') : Pre S0 S' := by
  obtain ⟨g, s, T, _, rfl⟩ := F
  exact (h.set hp _).app T
theorem Pre.le {S0 S : Sto} (h : Pre S0 S) : S0.length ≤ S.length := by
  obtain ⟨U, rfl⟩ := h
  simp
theorem lc_drawn {S0 : Sto} {p n : Nat} (hp0 : S0.length ≤ p) (hn0 : S0.length ≤ n) (hnp : n ≠ p) (all : List D) (a1 a2 a3 a4 : Option D) : ∀ (rest : List D) (acc : List Q2) (S : Sto) (g s : Int), Pre S0 S → S[p]? = some (pc g s) → Pot g s →
    S[n]? = some (.lst (acc.map fq)) → acc.length + rest.length < 1000 → (∀ q ∈ acc, Fra q.1 q.2) →
    ∃ (row : List Q2) (S' : Sto) (g' s' : Int), row.length = acc.length + rest.length ∧ (∀ q ∈ row, Fra q.1 q.2) ∧ Pre S0 S' ∧ S'[p]? = some (pc g' s') ∧ Pot g' s' ∧ S'[n]? = some (.lst (row.map fq)) ∧
      lcS (.nm 3) bTrue (vCall (vFn 1 [0] [] fn__law_drawn) (lCons (vV 0) (lNil))) none all n [some (.ref p), a1, a2, a3, a4] rest S = .ok (.ref n) S'
  | [], acc, S, g, s, hP, hp, P0, hn, _, hF => ⟨acc, S, g, s, by simp, hF, hP, hp, P0, hn, by
      unfold lcS
      rw [srcIf_none]⟩
  | d :: r, acc, S, g, s, hP, hp, P0, hn, hl, hF => by
    obtain ⟨x, y, S1, Fx, F1, e1⟩ := drawn_ok hp P0
    obtain ⟨g1, s1, P1, hp1⟩ := F1.pot (lt_of hp)
    have hn1 : S1[n]? = some (.lst (acc.map fq)) := by
      rw [F1.at (lt_of hn) hnp]
      exact hn
    have hl2 : acc.length + (r.length + 1) < 1000 := hl
    have hp2 : (S1.set n (.lst (acc.map fq ++ [fr x y])))[p]? = some (pc g1 s1) := by
      rw [List.getElem?_set_ne hnp]
      exact hp1
    obtain ⟨row, S2, g2, s2, q1, q2, q3, q4, q5, q6, q7⟩ := lc_drawn hp0 hn0 hnp all a1 a2 a3 a4 r (acc ++ [(x, y)]) (S1.set n (.lst (acc.map fq ++ [fr x y]))) g1 s1 ((hP.fr hp0 F1).set hn0 _) hp2 P1
      (by rw [List.getElem?_set_self (lt_of hn1)]; simp) (by simp; omega) (fun q hq => by
        rcases List.mem_append.mp hq with h | h
        · exact hF q h
        · rw [List.mem_singleton.mp h]
          exact Fx)
    refine ⟨row, S2, g2, s2, by rw [q1]; simp; omega, q2, q3, q4, q5, q6, ?_⟩
    unfold lcS
    rw [srcIf_none]
    have e0 : Pat.put (.nm 3) d [some (.ref p), a1, a2, a3, a4] = some [some (.ref p), a1, a2, some d, a4] := rfl
    have e2 : vCall (vFn 1 [0] [] fn__law_drawn) (lCons (vV 0) (lNil)) [some (.ref p), a1, a2, some d, a4] S = .ok (fr x y) S1 := call1 (d := .ref p) rfl (fn1 e1)
    have e3 : bTrue [some (.ref p), a1, a2, some d, a4] S = .ok true S := rfl
    rw [e0]
    simp only [e3, e2, hn1]
    rw [if_pos (by simp; omega)]
    exact q7
theorem fra0 : Fra 0 1 := ⟨by decide, by decide, by decide, by decide⟩
theorem fra1 : Fra 1 1 := ⟨by decide, by decide, by decide, by decide⟩
theorem fraM : Fra (-1) 1 := ⟨by decide, by decide, by decide, by decide⟩
noncomputable def thB : FS := sSeq (sIf (bNot (bOf (vCall gAll (lCons (vLc (iSeq (vBin gAdd (vV 1) (vLst (lCons (vTup (lCons (vC (.int 0)) (lCons (vC (.int 1)) (lNil)))) (lCons (vTup (lCons (vC (.int 1)) (lCons (vC (.int 1)) (lNil)))) (lCons (vTup (lCons (vUn gNeg (vC (.int 1))) (lCons (vC (.int 1)) (lNil)))) (lNil))))))) (.nm 4) [4] (bTrue) (vCall (vFn 2 [0, 1] [] fn__law_two_right) (lCons (vV 2) (lCons (vV 4) (lNil))))) (lNil))))) (sSeq (sRet (vC (.bl false))) (sNil)) (sNil)) (sNil)
theorem turn_ok {S : Sto} {n : Nat} {row : List Q2} {x : Q2} (hn : S[n]? = some (.lst (row.map fq))) (hl : row.length ≤ 20) (hF : ∀ q ∈ row, Fra q.1 q.2) (Fx : Fra x.1 x.2) (a0 a3 a4 : Option D) :
    ∃ U, thB [a0, some (.ref n), some (fq x), a3, a4] S = .nx [a0, some (.ref n), some (fq x), a3, a4] (S ++ U) := by
  let more : List Q2 := row ++ [(0, 1), (1, 1), (-1, 1)]
  let E : Ev := [a0, some (.ref n), some (fq x), a3, a4]
  let S1 : Sto := S ++ [.lst [fr 0 1, fr 1 1, fr (-1) 1]]
  let A : Sto := S1 ++ [.lst (more.map fq)]
  have hn1 : S1[n]? = some (.lst (row.map fq)) := by rw [List.getElem?_append_left (lt_of hn)]; exact hn
  have l3 : vLst (lCons (vTup (lCons (vC (.int 0)) (lCons (vC (.int 1)) (lNil)))) (lCons (vTup (lCons (vC (.int 1)) (lCons (vC (.int 1)) (lNil)))) (lCons (vTup (lCons (vUn gNeg (vC (.int 1))) (lCons (vC (.int 1)) (lNil)))) (lNil)))) E S = .ok (.ref S.length) S1 := lst3 (tup2 rfl rfl) (tup2 rfl rfl) (tup2 rfl rfl)
  have ad : gAdd (.ref n) (.ref S.length) S1 = .ok (.ref S1.length) A := by
    have h2 : S1[S.length]? = some (.lst [fr 0 1, fr 1 1, fr (-1) 1]) := get_new S _
    simp only [gAdd, hn1, h2]
    rw [if_pos (by simp; omega)]
    simp [A, more]
  have it : iSeq (vBin gAdd (vV 1) (vLst (lCons (vTup (lCons (vC (.int 0)) (lCons (vC (.int 1)) (lNil)))) (lCons (vTup (lCons (vC (.int 1)) (lCons (vC (.int 1)) (lNil)))) (lCons (vTup (lCons (vUn gNeg (vC (.int 1))) (lCons (vC (.int 1)) (lNil)))) (lNil)))))) E S = .ok (more.map fq) (some S1.length) A := by
    have q := bin_ok (g := gAdd) (f1 := vV 1) (E := E) (S := S) (x := .ref n) rfl l3 ad
    unfold iSeq
    rw [q]
    show itSeq (.ref S1.length) A = _
    have h3 : A[S1.length]? = some (.lst (more.map fq)) := get_new S1 _
    simp only [itSeq, h3]
  obtain ⟨U, al⟩ := all_true (p := .nm 4) (own := [4]) (e := vCall (vFn 2 [0, 1] [] fn__law_two_right) (lCons (vV 2) (lCons (vV 4) (lNil)))) it (fun m h => by cases h; exact get_new S1 _) (by simp [more]; omega) (fun d hd => by
    obtain ⟨y, hy, rfl⟩ := List.mem_map.mp hd
    have Fy : Fra y.1 y.2 := by
      rcases List.mem_append.mp hy with h | h
      · exact hF y h
      · simp only [List.mem_cons, List.not_mem_nil, or_false] at h
        rcases h with rfl | rfl | rfl
        · exact fra0
        · exact fra1
        · exact fraM
    refine ⟨[a0, some (.ref n), some (fq x), a3, some (fq y)], rfl, fun C => ?_⟩
    obtain ⟨U, e⟩ := two_ok (S := A ++ C) Fx Fy
    exact ⟨U, call2 (x := fq x) (y := fq y) rfl rfl (fn2 e)⟩)
  refine ⟨[.lst [fr 0 1, fr 1 1, fr (-1) 1]] ++ [.lst (more.map fq)] ++ U, (seq_no (not_of al)).trans ?_⟩
  show SRes.nx E _ = _
  simp [A, S1, E]
theorem turns_for {n : Nat} {row : List Q2} (hl : row.length ≤ 20) (hF : ∀ q ∈ row, Fra q.1 q.2) (a0 a3 a4 : Option D) : ∀ (rest : List Q2) (S : Sto) (a2 : Option D), (∀ q ∈ rest, Fra q.1 q.2) → S[n]? = some (.lst (row.map fq)) →
    ∃ b2 U, forS (.nm 2) thB (some n) (row.map fq) (rest.map fq) [a0, some (.ref n), a2, a3, a4] S = .nx [a0, some (.ref n), b2, a3, a4] (S ++ U)
  | [], S, a2, _, hn => ⟨a2, [], by
      show forS _ _ _ _ [] _ _ = _
      unfold forS
      rw [srcIf_some hn, List.append_nil]⟩
  | q :: r, S, a2, hr, hn => by
    obtain ⟨U, e⟩ := turn_ok hn hl hF (hr q List.mem_cons_self) a0 a3 a4
    obtain ⟨b2, U2, e2⟩ := turns_for hl hF a0 a3 a4 r (S ++ U) (some (fq q)) (fun x hx => hr x (List.mem_cons_of_mem _ hx)) (by rw [List.getElem?_append_left (lt_of hn)]; exact hn)
    refine ⟨b2, U ++ U2, ?_⟩
    show forS _ _ _ _ (fq q :: r.map fq) _ _ = _
    unfold forS
    rw [srcIf_some hn]
    have e0 : Pat.put (.nm 2) (fq q) [a0, some (.ref n), a2, a3, a4] = some [a0, some (.ref n), some (fq q), a3, a4] := rfl
    rw [e0]
    simp only [e, e2, List.append_assoc]
theorem right_ok {S0 S : Sto} {p : Nat} {g s : Int} (hP : Pre S0 S) (hp0 : S0.length ≤ p) (hp : S[p]? = some (pc g s)) (P0 : Pot g s) : ∃ S', Pre S0 S' ∧ fn__law_right [.ref p] S = .ok (.bl true) S' := by
  have lt := lt_of hp
  obtain ⟨k, A, hk, hk2, F1, L1, e1⟩ := take_fr hp P0 (u := 7) (by decide) (by decide)
  obtain ⟨g1, s1, P1, hp1⟩ := F1.pot lt
  have hPA := hP.fr hp0 F1
  have ltA := lt_of hp1
  have it : iRng (vBin gAdd (vC (.int 1)) (vCall (vFn 2 [0, 1] [] fn__law_take) (lCons (vV 0) (lCons (vC (.int 7)) (lNil))))) [some (.ref p), none, none, none, none] S = .ok (rngD 0 (1 + k).toNat) none A := by
    have q : vBin gAdd (vC (.int 1)) (vCall (vFn 2 [0, 1] [] fn__law_take) (lCons (vV 0) (lCons (vC (.int 7)) (lNil)))) [some (.ref p), none, none, none, none] S = .ok (.int (1 + k)) A :=
      bin_ok (x := .int 1) rfl (call2 (x := .ref p) (y := .int 7) rfl rfl (fn2 e1)) rfl
    unfold iRng
    rw [q]
    show itR1 (.int (1 + k)) A = _
    simp only [itR1]
    rw [if_pos (by omega)]
  have len0 : (rngD 0 (1 + k).toNat).length = (1 + k).toNat := by simp [rngD]
  obtain ⟨row, S2, g2, s2, q1, q2, q3, q4, q5, q6, q7⟩ := lc_drawn hp0 (hPA.le) (by omega) (rngD 0 (1 + k).toNat) none none none none (rngD 0 (1 + k).toNat) [] (A ++ [.lst []]) g1 s1 (hPA.app _) (by rw [List.getElem?_append_left ltA]; exact hp1) P1 (get_new A _) (by rw [len0]; simp; omega) (fun q h => by cases h)
  have hlen : row.length = (1 + k).toNat := by rw [q1, len0]; simp
  have d1 : vLc (iRng (vBin gAdd (vC (.int 1)) (vCall (vFn 2 [0, 1] [] fn__law_take) (lCons (vV 0) (lCons (vC (.int 7)) (lNil)))))) (.nm 3) [3] (bTrue) (vCall (vFn 1 [0] [] fn__law_drawn) (lCons (vV 0) (lNil))) [some (.ref p), none, none, none, none] S = .ok (.ref A.length) S2 := by
    unfold vLc
    rw [it]
    exact q7
  obtain ⟨d, S3, hd, F3, L3, e3⟩ := of_ok q4 q5 q6 (by omega) (by simp; omega) (by simp; omega)
  obtain ⟨x, hx, rfl⟩ := List.mem_map.mp hd
  have hn3 : S3[A.length]? = some (.lst (row.map fq)) := by
    rw [F3.at (lt_of q6) (by omega)]
    exact q6
  let full : List Q2 := row ++ [x]
  let S4 : Sto := S3.set A.length (.lst (full.map fq))
  have hn4 : S4[A.length]? = some (.lst (full.map fq)) := by rw [List.getElem?_set_self (lt_of hn3)]
  have hP4 : Pre S0 S4 := (q3.fr hp0 F3).set hPA.le _
  have hFf : ∀ q ∈ full, Fra q.1 q.2 := fun q hq => by
    rcases List.mem_append.mp hq with h | h
    · exact q2 q h
    · rw [List.mem_singleton.mp h]
      exact q2 x hx
  have fl : full.length ≤ 9 := by simp [full]; omega
  let E1 : Ev := [some (.ref p), some (.ref A.length), none, none, none]
  have d2 : ∀ R : FS, sSeq (sEx (vMeth isLst gApp (vV 1) (lCons (vCall (vFn 2 [0, 1] [] fn__law_of) (lCons (vV 0) (lCons (vV 1) (lNil)))) (lNil)))) R E1 S2 = R E1 S4 := fun R => by
    have c : vCall (vFn 2 [0, 1] [] fn__law_of) (lCons (vV 0) (lCons (vV 1) (lNil))) E1 S2 = .ok (fq x) S3 := call2 (x := .ref p) (y := .ref A.length) rfl rfl (fn2 e3)
    have m : vMeth isLst gApp (vV 1) (lCons (vCall (vFn 2 [0, 1] [] fn__law_of) (lCons (vV 0) (lCons (vV 1) (lNil)))) (lNil)) E1 S2 = .ok .non S4 := by
      have hv : vV 1 E1 S2 = .ok (.ref A.length) S2 := rfl
      have hi : isLst (.ref A.length) S2 = true := by simp [isLst, q6]
      have lc : lCons (vCall (vFn 2 [0, 1] [] fn__law_of) (lCons (vV 0) (lCons (vV 1) (lNil)))) lNil E1 S2 = .ok [fq x] S3 := by simp only [lCons, lNil, c, Res.bindL_ok, ResL.bindL]
      unfold vMeth
      rw [hv]
      simp only [Res.bind_ok, hi, lc, ResL.bind, if_true]
      simp only [gApp, hn3]
      rw [if_pos (by simp; omega)]
      simp [S4, full]
    unfold sSeq sEx
    rw [m]
    rfl
  obtain ⟨b2, U, e4⟩ := turns_for (n := A.length) (row := full) (by omega) hFf (some (.ref p)) none none full S4 none hFf hn4
  have itf : iSeq (vV 1) E1 S4 = .ok (full.map fq) (some A.length) S4 := by
    show itSeq (.ref A.length) S4 = _
    simp only [itSeq, hn4]
  let S5 : Sto := S4 ++ U
  let E2 : Ev := [some (.ref p), some (.ref A.length), b2, none, none]
  have hn5 : S5[A.length]? = some (.lst (full.map fq)) := by rw [List.getElem?_append_left (lt_of hn4)]; exact hn4
  obtain ⟨q0, r0, hq⟩ : ∃ q r, full = q :: r := by
    cases h : full with
    | nil => simp [full] at h
    | cons q r => exact ⟨q, r, rfl⟩
  have hF0 : ∀ z ∈ q0 :: r0, Fra z.1 z.2 := fun z hz => hFf z (by rw [hq]; exact hz)
  obtain ⟨U1, w1⟩ := row_ok (S := S5) (by rw [← hq]; exact fl) hF0
  rw [← hq] at w1
  let S6 : Sto := S5 ++ U1
  have hn6 : S6[A.length]? = some (.lst (full.map fq)) := by rw [List.getElem?_append_left (lt_of hn5)]; exact hn5
  let S7 : Sto := S6 ++ [.lst [fq q0]]
  obtain ⟨U2, w2⟩ := row_ok (q := q0) (r := []) (S := S7) (by simp) (fun z hz => hF0 z (by rw [List.mem_singleton.mp hz]; exact List.mem_cons_self))
  let S8 : Sto := S7 ++ U2
  have t1 : vCall gTuple (lCons (vV 1) lNil) E2 S5 = .ok (.tup (full.map fq)) S5 := call1 (d := .ref A.length) rfl (by simp [gTuple, seqOf, hn5])
  have y1 : vCall (vFn 1 [0] [] fn__law_row_right) (lCons (vCall gTuple (lCons (vV 1) (lNil))) (lNil)) E2 S5 = .ok (.bl true) S6 := call1 t1 (fn1 w1)
  have sl : vSl (vV 1) (vC .non) (vInt (vC (.int 1))) E2 S6 = .ok (.ref S6.length) S7 := by
    have cu : cutL (full.map fq) none (some 1) = [fq q0] := by
      rw [hq]
      unfold cutL
      rw [HT.sIx_none, show (some (1 : Int)) = some ((1 : Nat) : Int) from rfl, HT.sIx_nat]
      simp
    have g0 : gSl (.ref A.length) none (some 1) S6 = .ok (.ref S6.length) S7 := by
      simp only [gSl, listOf_ref, hn6, cu]
      rfl
    exact g0
  have t2 : vCall gTuple (lCons (vSl (vV 1) (vC .non) (vInt (vC (.int 1)))) lNil) E2 S6 = .ok (.tup [fq q0]) S7 := call1 sl (by
    have h : S7[S6.length]? = some (.lst [fq q0]) := get_new S6 _
    simp [gTuple, seqOf, h])
  have y2 : vCall (vFn 1 [0] [] fn__law_row_right) (lCons (vCall gTuple (lCons (vSl (vV 1) (vC .non) (vInt (vC (.int 1)))) (lNil))) (lNil)) E2 S6 = .ok (.bl true) S8 := call1 t2 (fn1 w2)
  have y3 : vBin gEq (vCall (vFn 1 [0] [] fn_sum_of) (lCons (vTup (lNil)) (lNil))) (vTup (lCons (vC (.int 0)) (lCons (vC (.int 1)) (lNil)))) E2 S8 = .ok (.bl true) S8 :=
    bin_ok (x := fr 0 1) (call1 (d := .tup []) (S1 := S8) rfl (fn1 (sum_ok (row := []) (by simp) (fun q h => by cases h)))) (tup2 rfl rfl) (by rw [eq_tt]; rfl)
  refine ⟨S8, (((hP4.app U).app U1).app _).app U2, run_ret ?_⟩
  refine (seq_set d1).trans ((d2 _).trans ((seq_for itf e4).trans (one_ret (and_ok y1 (and_ok y2 y3)))))
end P
namespace P
open PySem PySem.Spec PyProof.Rows L2 Z
theorem math (ns : List Int) (h : ns.length ≤ 63) : ∃ S, fn_law [.fl (ns.map .int)] [] = .ok (.bl true) S := by
  let m : Int := if (if (ns.length : Int) < 4 then (ns.length : Int) else 4) > 1 then (if (ns.length : Int) < 4 then (ns.length : Int) else 4) else 1
  have hm : m = if (if (ns.length : Int) < 4 then (ns.length : Int) else 4) > 1 then (if (ns.length : Int) < 4 then (ns.length : Int) else 4) else 1 := rfl
  have m0 : 1 ≤ m := by rw [hm]; split <;> omega
  have m4 : m ≤ 4 := by rw [hm]; split <;> (try split) <;> omega
  have it : iRng (vCall gMax2 (lCons (vC (.int 1)) (lCons (vCall gMin2 (lCons (vC (.int 4)) (lCons (vCall gLen (lCons (vV 0) (lNil))) (lNil)))) (lNil)))) [some (.fl (ns.map .int)), none] [] = .ok (rngD 0 m.toNat) none [] := by
    have q : vCall gMax2 (lCons (vC (.int 1)) (lCons (vCall gMin2 (lCons (vC (.int 4)) (lCons (vCall gLen (lCons (vV 0) (lNil))) (lNil)))) (lNil))) [some (.fl (ns.map .int)), none] [] = .ok (.int m) [] := by
      refine call2 (x := .int 1) rfl (call2 (x := .int 4) rfl (call1 (d := .fl (ns.map .int)) (r := .ok (.int ns.length) []) rfl (by simp [gLen, seqOf])) (by simp only [gMin2]; rfl)) (by simp only [gMax2]; rfl)
    unfold iRng
    rw [q]
    show itR1 (.int m) [] = _
    simp only [itR1]
    rw [if_pos (by omega)]
  obtain ⟨U, al⟩ := all_true (p := .nm 1) (own := [1]) (e := vCall (vFn 1 [0] [] fn__law_right) (lCons (vCall (vFn 2 [0, 1] [] fn__law_pot) (lCons (vV 0) (lCons (vV 1) (lNil)))) (lNil))) it (fun n q => by cases q) (by simp [rngD]; omega) (fun d hd => by
    obtain ⟨i, hi, rfl⟩ := List.mem_map.mp hd
    have hi2 := List.mem_range.mp hi
    refine ⟨[some (.fl (ns.map .int)), some (.int (0 + (i : Int)))], rfl, fun C => ?_⟩
    obtain ⟨g, s, P0, e1⟩ := pot_ok ([] ++ C) ns (0 + (i : Int)) (by omega) (by omega)
    obtain ⟨S', ⟨U, hU⟩, e2⟩ := right_ok (S0 := [] ++ C) (S := [] ++ C ++ [pc g s]) (p := ([] ++ C : Sto).length) ((Pre.refl _).app _) (Nat.le_refl _) (get_new _ _) P0
    exact ⟨U, by rw [← hU]; exact call1 (call2 (x := .fl (ns.map .int)) (y := .int (0 + (i : Int))) rfl rfl (fn2 e1)) (fn1 e2)⟩)
  exact ⟨_, run_ret (one_ret al)⟩
end P
open PySem PySem.W PySem.Calls PyProof.Rows
theorem PySem.Challenge.cw_lateshares_k02_fractions_reckoned_holds : PySem.Challenge.rw_lateshares_k02_fractions_reckoned.Holds := by
  w_on; o_law
  refine HandSHeadRun.head_imp (r := P.Rw) (q := P.vw) (H := P.hk) (ob := P.ob) (M := 6000) (loose := P.loose) (d := HandSHeadRun.topDef P.Rw.prog 27) (kwd := []) P.ob_eq
    P.run (by kernel_rfl) (by kernel_rfl) (by kernel_rfl) (by rfl) (by first | assumption | decide +kernel) (by decide +kernel) ⟨rfl, rfl, rfl, rfl, rfl, by decide +kernel⟩ ?hw ?hc
  case hw => w_witness2
  case hc =>
    refine Z.walk_ofG (l := PySem.Challenge.rw_lateshares_k02_fractions_reckoned) (n := 63) (k := 8) (x := "_law_script") (fn := P.fn_law) rfl (by decide) (by kernel_rfl) ⟨rfl, by decide, by decide⟩ ?F P.math
    intro w mg fa h Y G hmg0
    obtain ⟨K, KX, c⟩ := Y
    have hmg : mg ("law" : PySem.Str) = some (.ref fa) := by
      have e : (HandSHeadRun.topDef P.Rw.prog 27).name = ("law" : PySem.Str) := by kernel_rfl
      rw [← e]
      exact hmg0
    obtain ⟨fd, hb, hF⟩ := P.law_facts (P := (PySem.Challenge.rw_lateshares_k02_fractions_reckoned).prog) (w := w) KX G hmg c
    exact ⟨K, fd, KX, hb, fun base _ _ => hF base⟩
