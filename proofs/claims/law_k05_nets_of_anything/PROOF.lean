import PyProof.Rows.All
import Wide.All
import OpenK.AllK
import Wide.FinOn
import HandS.ForMost
import HandS.Exc
import HandS.WordsExc
import HandS.Defaults
import HandS.Wide
import HandS.IsInst
import HandS.Flow
import HandS.HeadHook2
import HandS.TupAny
import HandS.TupMul
import HandS.Gcd
import HandS.StrMore
import HandS.Text
import HandS.RaiseMore
import HandS.Iter
import HandS.ExcField
import HandS.ExcInit
import HandS.ExcIs
import HandS.SetFor
import KE.KExcIs
import KE.KTryMore
import HandS.Deep
import PyProof.AutoSeq1
import HandS.Zip
import HandS.Style
import PyProof.ReprRoads
import KE.KStateDown
import HandS.Head0
import HandS.Head1
import HandS.Head2
import HandS.Head3
import HandS.HeadEnd
import HandS.HeadHook1
import PySem.Challenge.RW_lateshares_k05_nets_of_anything
set_option Elab.async false
set_option linter.all false
set_option maxRecDepth 100000
set_option maxHeartbeats 4000000
namespace Z
open PySem PySem.Spec PyProof.Rows L2

/-! ## data, store, results -/
inductive D where
  | non | bl (b : Bool) | int (i : Int) | str (x : Str)
  | tup (xs : List D) | fl (xs : List D) | emp | ref (n : Nat)

inductive Cell where
  | lst (xs : List D)
  | exc (c : Str) (fs : List (Str × D))
  | ins (c : Str) (fs : List (Str × D))

abbrev Sto := List Cell
abbrev Ev := List (Option D)

inductive Res where
  | ok (d : D) (S : Sto)
  | exc (c : Str) (fs : List (Str × D)) (S : Sto)
  | bad
inductive ResL where
  | ok (ds : List D) (S : Sto)
  | exc (c : Str) (fs : List (Str × D)) (S : Sto)
  | bad
inductive ResB where
  | ok (b : Bool) (S : Sto)
  | exc (c : Str) (fs : List (Str × D)) (S : Sto)
  | bad
inductive SRes where
  | nx (E : Ev) (S : Sto)
  | brk (E : Ev) (S : Sto)
  | cnt (E : Ev) (S : Sto)
  | ret (d : D) (S : Sto)
  | exc (c : Str) (fs : List (Str × D)) (E : Ev) (S : Sto)
  | bad

abbrev FE := Ev → Sto → Res
abbrev FL := Ev → Sto → ResL
abbrev FB := Ev → Sto → ResB
abbrev FS := Ev → Sto → SRes

/-! ## how data stand in the heap -/
/-- a list that nothing writes: the argument's, or one of the written part -/
def SqF (K : PySem.W.Frag) (H : Hp) (a : Addr) (xs : List V) : Prop := (∃ o, H a = some (.frz o (.lst xs))) ∨ SqL K (fun _ => none) a xs
theorem SqF.sq {K : PySem.W.Frag} {H : Hp} {a : Addr} {xs : List V} (h : SqF K H a xs) : SqL K H a xs := by
  rcases h with h | (h | ⟨o, h⟩) | h
  · exact .inl (.inr h)
  · cases h
  · cases h
  · exact .inr h

section
variable (K : PySem.W.Frag) (H : Hp) (m : List Addr)
mutual
inductive RV : D → V → Prop where
  | non : RV .non .non
  | bl (b : Bool) : RV (.bl b) (.bl b)
  | int (i : Int) : RV (.int i) (.int i)
  | str (x : Str) : RV (.str x) (.str x)
  | ref {n : Nat} {a : Addr} : m[n]? = some a → RV (.ref n) (.ref a)
  | tup {a : Addr} {ds : List D} {xs : List V} : SqT K H a xs → RVs ds xs → RV (.tup ds) (.ref a)
  | fl {a : Addr} {ds : List D} {xs : List V} : SqF K H a xs → RVs ds xs → RV (.fl ds) (.ref a)
  | emp {a : Addr} : H a = some (.dK []) → RV .emp (.ref a)
inductive RVs : List D → List V → Prop where
  | nil : RVs [] []
  | cons {d : D} {v : V} {ds : List D} {vs : List V} : RV d v → RVs ds vs → RVs (d :: ds) (v :: vs)
end
end

/-- the later world knows all that the earlier one knew -/
structure Le (K : PySem.W.Frag) (H : Hp) (m : List Addr) (H' : Hp) (m' : List Addr) : Prop where
  m : ∀ (n : Nat) (a : Addr), m[n]? = some a → m'[n]? = some a
  t : ∀ a xs, SqT K H a xs → SqT K H' a xs
  f : ∀ a xs, SqF K H a xs → SqF K H' a xs
  e : ∀ a, H a = some (.dK []) → H' a = some (.dK [])
theorem Le.refl {K H m} : Le K H m H m := ⟨fun _ _ h => h, fun _ _ h => h, fun _ _ h => h, fun _ h => h⟩
theorem Le.trans {K H m H1 m1 H2 m2} (a : Le K H m H1 m1) (b : Le K H1 m1 H2 m2) : Le K H m H2 m2 :=
  ⟨fun n x h => b.m n x (a.m n x h), fun n x h => b.t n x (a.t n x h), fun n x h => b.f n x (a.f n x h), fun x h => b.e x (a.e x h)⟩

mutual
theorem RV.up {K H m H' m'} (l : Le K H m H' m') : ∀ {d : D} {v : V}, RV K H m d v → RV K H' m' d v
  | _, _, .non => .non
  | _, _, .bl b => .bl b
  | _, _, .int b => .int b
  | _, _, .str b => .str b
  | _, _, .ref h => .ref (l.m _ _ h)
  | _, _, .tup h t => .tup (l.t _ _ h) (RVs.up l t)
  | _, _, .fl h t => .fl (l.f _ _ h) (RVs.up l t)
  | _, _, .emp h => .emp (l.e _ h)
theorem RVs.up {K H m H' m'} (l : Le K H m H' m') : ∀ {d : List D} {v : List V}, RVs K H m d v → RVs K H' m' d v
  | _, _, .nil => .nil
  | _, _, .cons h t => .cons (RV.up l h) (RVs.up l t)
end
theorem RVs.len {K H m} : ∀ {ds : List D} {vs : List V}, RVs K H m ds vs → ds.length = vs.length
  | _, _, .nil => rfl
  | _, _, .cons _ t => by simp [RVs.len t]
theorem RVs.app {K H m} : ∀ {ds es : List D} {vs us : List V}, RVs K H m ds vs → RVs K H m es us → RVs K H m (ds ++ es) (vs ++ us)
  | _, _, _, _, .nil, h => h
  | _, _, _, _, .cons r t, h => .cons r (RVs.app t h)
theorem RVs.take {K H m} : ∀ {ds : List D} {vs : List V} (n : Nat), RVs K H m ds vs → RVs K H m (ds.take n) (vs.take n)
  | _, _, 0, _ => .nil
  | _, _, _ + 1, .nil => .nil
  | _, _, n + 1, .cons r t => .cons r (RVs.take n t)
theorem RVs.drop {K H m} : ∀ {ds : List D} {vs : List V} (n : Nat), RVs K H m ds vs → RVs K H m (ds.drop n) (vs.drop n)
  | _, _, 0, r => r
  | _, _, _ + 1, .nil => .nil
  | _, _, n + 1, .cons _ t => RVs.drop n t
theorem RVs.at {K H m} : ∀ {ds : List D} {vs : List V} {i : Nat} {d : D}, RVs K H m ds vs → ds[i]? = some d → ∃ v, vs[i]? = some v ∧ RV K H m d v
  | _, _, i, _, .nil, e => by simp at e
  | _, _, 0, _, .cons r _, e => by simp at e; subst e; exact ⟨_, rfl, r⟩
  | _, _, i + 1, _, .cons _ t, e => by
    obtain ⟨v, h1, h2⟩ := RVs.at (i := i) t (by simpa using e)
    exact ⟨v, by simpa using h1, h2⟩
theorem RVs.at' {K H m} : ∀ {ds : List D} {vs : List V} {i : Nat} {v : V}, RVs K H m ds vs → vs[i]? = some v → ∃ d, ds[i]? = some d ∧ RV K H m d v
  | _, _, i, _, .nil, e => by simp at e
  | _, _, 0, _, .cons r _, e => by simp at e; subst e; exact ⟨_, rfl, r⟩
  | _, _, i + 1, _, .cons _ t, e => by
    obtain ⟨v, h1, h2⟩ := RVs.at' (i := i) t (by simpa using e)
    exact ⟨v, by simpa using h1, h2⟩
theorem RVs.set {K H m} {d : D} {v : V} (r : RV K H m d v) : ∀ {ds : List D} {vs : List V} (i : Nat), RVs K H m ds vs → RVs K H m (ds.set i d) (vs.set i v)
  | _, _, _, .nil => .nil
  | _, _, 0, .cons _ t => .cons r t
  | _, _, i + 1, .cons q t => .cons q (RVs.set r i t)
theorem RVs.rev {K H m} : ∀ {ds : List D} {vs : List V}, RVs K H m ds vs → RVs K H m ds.reverse vs.reverse
  | _, _, .nil => .nil
  | _, _, .cons r t => by simpa using (RVs.rev t).app (.cons r .nil)

/-- fields by name -/
def RFs (K : PySem.W.Frag) (H : Hp) (m : List Addr) : List (Str × D) → List (Str × V) → Prop :=
  Paired fun p q => p.1 = q.1 ∧ RV K H m p.2 q.2
theorem RFs.up {K H m H' m'} (l : Le K H m H' m') {a b} (h : RFs K H m a b) : RFs K H' m' a b := Paired.mapP h fun _ _ z => ⟨z.1, z.2.up l⟩

/-- an exception in the air -/
def RX (K : PySem.W.Frag) (H : Hp) (m : List Addr) (c : Str) (fs : List (Str × D)) (cls : Value) (dd : Option Addr) : Prop :=
  cls = .ref (He.ga K c) ∧ ((fs = [] ∧ dd = none) ∨ ∃ d gs, dd = some d ∧ H d = some (.xd gs) ∧ RFs K H m fs gs)

/-- an exception that a name holds -/
def exv (cls : Value) (dd : Option Addr) (a : Addr) : HO := .ext fun h => ∃ (oe : Obj) (vs : Array Value), h.get? a = some oe ∧ Zc cls dd oe ∧ oe.data = .fields vs

def RC (K : PySem.W.Frag) (H : Hp) (m : List Addr) : Cell → Addr → Prop
  | .lst ds, a => ∃ vs, H a = some (.lst vs) ∧ RVs K H m ds vs
  | .exc c fs, a => ∃ dd, H a = some (exv (.ref (He.ga K c)) dd a) ∧ RX K H m c fs (.ref (He.ga K c)) dd
  | .ins c fs, a => ∃ dx gs, H a = some (.ins (He.ga K c) dx gs) ∧ RFs K H m fs gs

structure RS (K : PySem.W.Frag) (H : Hp) (m : List Addr) (S : Sto) : Prop where
  len : m.length = S.length
  inj : ∀ (i j : Nat) a, m[i]? = some a → m[j]? = some a → i = j
  at_ : ∀ (i : Nat) c, S[i]? = some c → ∃ a, m[i]? = some a ∧ RC K H m c a

structure RE (K : PySem.W.Frag) (H : Hp) (m : List Addr) (E : Ev) (σ : L2.St) : Prop where
  len : E.length = σ.length
  at_ : ∀ (i : Nat) d, E[i]? = some (some d) → ∃ v, σ[i]? = some (some v) ∧ RV K H m d v
theorem RE.up {K H m H' m' E σ} (l : Le K H m H' m') (h : RE K H m E σ) : RE K H' m' E σ :=
  ⟨h.len, fun i d e => let ⟨v, h1, h2⟩ := h.at_ i d e; ⟨v, h1, h2.up l⟩⟩
theorem RE.set {K H m E σ} (h : RE K H m E σ) (i : Nat) {d : D} {v : V} (r : RV K H m d v) : RE K H m (E.set i (some d)) (σ.set i (some v)) := by
  refine ⟨by simp [h.len], fun j e hj => ?_⟩
  by_cases hij : i = j
  · subst hij
    by_cases hl : i < E.length
    · rw [List.getElem?_set_self hl] at hj
      cases hj
      exact ⟨v, by rw [List.getElem?_set_self (h.len ▸ hl)], r⟩
    · rw [List.getElem?_eq_none (by simpa using hl)] at hj
      cases hj
  · rw [List.getElem?_set_ne hij] at hj
    obtain ⟨w, h1, h2⟩ := h.at_ j e hj
    exact ⟨w, by rw [List.getElem?_set_ne hij]; exact h1, h2⟩
theorem RE.unset {K H m E σ} (h : RE K H m E σ) (i : Nat) : RE K H m (E.set i none) (σ.set i none) := by
  refine ⟨by simp [h.len], fun j e hj => ?_⟩
  by_cases hij : i = j
  · subst hij
    by_cases hl : i < E.length
    · rw [List.getElem?_set_self hl] at hj
      cases hj
    · rw [List.getElem?_eq_none (by simpa using hl)] at hj
      cases hj
  · rw [List.getElem?_set_ne hij] at hj
    obtain ⟨w, h1, h2⟩ := h.at_ j e hj
    exact ⟨w, by rw [List.getElem?_set_ne hij]; exact h1, h2⟩

/-! ## the world grows -/
/-- what a store or a new object leaves of tuples and frozen lists -/
theorem Le.put {K H m} {p : Addr} {o : HO} (h1 : ∀ xs, H p ≠ some (.tup xs)) (h2 : ∀ ob u, H p ≠ some (.frz ob u)) (h3 : H p ≠ some (.dK [])) : Le K H m (upd H p o) m := by
  have ne1 : ∀ b xs, H b = some (.tup xs) → b ≠ p := fun b xs e z => by subst z; exact h1 _ e
  have ne2 : ∀ b ob u, H b = some (.frz ob u) → b ≠ p := fun b ob u e z => by subst z; exact h2 _ _ e
  refine ⟨fun _ _ h => h, fun a xs h => ?_, fun a xs h => ?_, fun a h => by
    have na : a ≠ p := fun z => by subst z; exact h3 h
    rw [upd_ne na]; exact h⟩
  · rcases h with (h | ⟨ob, h⟩) | h
    · exact .inl (.inl (by rw [upd_ne (ne1 _ _ h)]; exact h))
    · exact .inl (.inr ⟨ob, by rw [upd_ne (ne2 _ _ _ h)]; exact h⟩)
    · exact .inr h
  · rcases h with ⟨ob, h⟩ | h
    · exact .inl ⟨ob, by rw [upd_ne (ne2 _ _ _ h)]; exact h⟩
    · exact .inr h
theorem Le.new {K H m} {p : Addr} {o : HO} (h : H p = none) : Le K H m (upd H p o) m :=
  Le.put (fun _ e => by rw [h] at e; cases e) (fun _ _ e => by rw [h] at e; cases e) (fun e => by rw [h] at e; cases e)
theorem Le.more {K H m} {p : Addr} : Le K H m H (m ++ [p]) :=
  ⟨fun n a h => by rw [List.getElem?_append_left (List.getElem?_eq_some_iff.mp h).1]; exact h, fun _ _ h => h, fun _ _ h => h, fun _ h => h⟩

theorem RX.up {K H m H' m' c fs cls dd} (l : Le K H m H' m') (k : ∀ d gs, H d = some (.xd gs) → H' d = some (.xd gs)) (h : RX K H m c fs cls dd) : RX K H' m' c fs cls dd := by
  obtain ⟨e, h⟩ := h
  refine ⟨e, ?_⟩
  rcases h with h | ⟨d, gs, h1, h2, h3⟩
  · exact .inl h
  · exact .inr ⟨d, gs, h1, k _ _ h2, h3.up l⟩
/-- a new object that no cell speaks of -/
theorem RS.side {K H m S} {p : Addr} {o : HO} (h : RS K H m S) (hp : H p = none) : RS K (upd H p o) m S := by
  have l : Le K H m (upd H p o) m := Le.new hp
  have ne : ∀ {b : Addr} {u : HO}, H b = some u → upd H p o b = some u := fun {b u} e => by
    rw [upd_ne (ne_of_none e hp)]; exact e
  refine ⟨h.len, h.inj, fun i c e => ?_⟩
  obtain ⟨a, h1, h2⟩ := h.at_ i c e
  refine ⟨a, h1, ?_⟩
  cases c with
  | lst ds => obtain ⟨vs, h3, h4⟩ := h2; exact ⟨vs, ne h3, h4.up l⟩
  | exc c fs => obtain ⟨dd, h3, h4⟩ := h2; exact ⟨dd, ne h3, h4.up l fun _ _ z => ne z⟩
  | ins c fs => obtain ⟨dx, gs, h3, h4⟩ := h2; exact ⟨dx, gs, ne h3, h4.up l⟩
theorem RS.bnd {K H m S} (h : RS K H m S) {i : Nat} {a : Addr} (e : m[i]? = some a) : ∃ u, H a = some u := by
  have hi : i < S.length := by rw [← h.len]; exact (List.getElem?_eq_some_iff.mp e).1
  obtain ⟨b, h1, h2⟩ := h.at_ i S[i] (List.getElem?_eq_getElem hi)
  rw [e] at h1
  cases h1
  generalize S[i] = c at h2
  cases c with
  | lst ds => obtain ⟨vs, h3, h4⟩ := h2; exact ⟨_, h3⟩
  | exc c fs => obtain ⟨dd, h3, h4⟩ := h2; exact ⟨_, h3⟩
  | ins c fs => obtain ⟨dx, gs, h3, h4⟩ := h2; exact ⟨_, h3⟩
/-- a new cell -/
theorem RS.push {K H m S} {p : Addr} {c : Cell} (h : RS K H m S) (hp : ∀ i : Nat, m[i]? ≠ some p) (hc : RC K H (m ++ [p]) c p) : RS K H (m ++ [p]) (S ++ [c]) := by
  have l : Le K H m H (m ++ [p]) := Le.more
  refine ⟨by simp [h.len], fun i j a h1 h2 => ?_, fun i d e => ?_⟩
  · by_cases hi : i < m.length
    · rw [List.getElem?_append_left hi] at h1
      by_cases hj : j < m.length
      · rw [List.getElem?_append_left hj] at h2
        exact h.inj i j a h1 h2
      · rw [List.getElem?_append_right (Nat.le_of_not_lt hj)] at h2
        have : a = p := by
          have := List.mem_of_getElem? h2
          simpa using this
        subst this
        exact absurd h1 (hp i)
    · rw [List.getElem?_append_right (Nat.le_of_not_lt hi)] at h1
      have ha : a = p := by
        have := List.mem_of_getElem? h1
        simpa using this
      subst ha
      by_cases hj : j < m.length
      · rw [List.getElem?_append_left hj] at h2
        exact absurd h2 (hp j)
      · rw [List.getElem?_append_right (Nat.le_of_not_lt hj)] at h2
        have e1 := (List.getElem?_eq_some_iff.mp h1).1
        have e2 := (List.getElem?_eq_some_iff.mp h2).1
        simp at e1 e2
        omega
  · by_cases hi : i < S.length
    · rw [List.getElem?_append_left hi] at e
      obtain ⟨a, h1, h2⟩ := h.at_ i d e
      refine ⟨a, l.m _ _ h1, ?_⟩
      cases d with
      | lst ds => obtain ⟨vs, h3, h4⟩ := h2; exact ⟨vs, h3, h4.up l⟩
      | exc c fs => obtain ⟨dd, h3, h4⟩ := h2; exact ⟨dd, h3, h4.up l fun _ _ z => z⟩
      | ins c fs => obtain ⟨dx, gs, h3, h4⟩ := h2; exact ⟨dx, gs, h3, h4.up l⟩
    · rw [List.getElem?_append_right (Nat.le_of_not_lt hi)] at e
      have e1 := (List.getElem?_eq_some_iff.mp e).1
      have e2 : i = S.length := by simp at e1; omega
      subst e2
      simp at e
      subst e
      exact ⟨p, by rw [← h.len]; simp, hc⟩
theorem RS.newp {K H m S} (h : RS K H m S) {p : Addr} (hp : H p = none) (i : Nat) : m[i]? ≠ some p := fun e => by
  obtain ⟨u, hu⟩ := h.bnd e
  rw [hp] at hu
  cases hu
theorem RS.alloc {K H m S} {p : Addr} {ds : List D} {vs : List V} (h : RS K H m S) (hp : H p = none) (r : RVs K H m ds vs) :
    Le K H m (upd H p (.lst vs)) (m ++ [p]) ∧ RS K (upd H p (.lst vs)) (m ++ [p]) (S ++ [.lst ds]) := by
  have l : Le K H m (upd H p (.lst vs)) (m ++ [p]) := (Le.new hp).trans Le.more
  exact ⟨l, (h.side hp).push (h.newp hp) ⟨vs, upd_same, r.up l⟩⟩
/-- a list is written -/
theorem RS.write {K H m S} {i : Nat} {a : Addr} {ds es : List D} {vs us : List V} (h : RS K H m S) (hi : S[i]? = some (.lst ds)) (ha : m[i]? = some a) (hv : H a = some (.lst vs)) (r : RVs K H m es us) :
    Le K H m (upd H a (.lst us)) m ∧ RS K (upd H a (.lst us)) m (S.set i (.lst es)) := by
  have l : Le K H m (upd H a (.lst us)) m := Le.put (fun _ e => by rw [hv] at e; cases e) (fun _ _ e => by rw [hv] at e; cases e) (fun e => by rw [hv] at e; cases e)
  refine ⟨l, by simpa using h.len, h.inj, fun j c e => ?_⟩
  by_cases hij : i = j
  · subst hij
    rw [List.getElem?_set_self (List.getElem?_eq_some_iff.mp hi).1] at e
    cases e
    exact ⟨a, ha, us, upd_same, r.up l⟩
  · rw [List.getElem?_set_ne hij] at e
    obtain ⟨b, h1, h2⟩ := h.at_ j c e
    have nba : b ≠ a := fun z => hij (h.inj i j a ha (z ▸ h1))
    refine ⟨b, h1, ?_⟩
    have xd : ∀ d gs, H d = some (.xd gs) → upd H a (.lst us) d = some (.xd gs) := fun d gs z => by
      rw [upd_ne (ne_of z hv (by intro q; cases q))]; exact z
    cases c with
    | lst ds => obtain ⟨vs, h3, h4⟩ := h2; exact ⟨vs, by rw [upd_ne nba]; exact h3, h4.up l⟩
    | exc c fs => obtain ⟨dd, h3, h4⟩ := h2; exact ⟨dd, by rw [upd_ne nba]; exact h3, h4.up l xd⟩
    | ins c fs => obtain ⟨dx, gs, h3, h4⟩ := h2; exact ⟨dx, gs, by rw [upd_ne nba]; exact h3, h4.up l⟩
/-- the list at a reference -/
theorem RS.list {K H m S} {n : Nat} {ds : List D} {v : V} (h : RS K H m S) (e : S[n]? = some (.lst ds)) (r : RV K H m (.ref n) v) :
    ∃ a vs, v = .ref a ∧ m[n]? = some a ∧ H a = some (.lst vs) ∧ RVs K H m ds vs := by
  cases r with
  | ref hm =>
    obtain ⟨a, h1, vs, h2, h3⟩ := h.at_ n _ e
    rw [hm] at h1
    cases h1
    exact ⟨_, vs, rfl, hm, h2, h3⟩
end Z
namespace Z
open PySem PySem.Spec PyProof.Rows L2

/-! ## what is wanted behind a result -/
def PV (K : PySem.W.Frag) (W : WX) (H : Hp) (m : List Addr) (σ : L2.St) (r : Res) (Q : VK) : Prop :=
  match r with
  | .ok d S => ∀ H' m' v, Le K H m H' m' → RS K H' m' S → RV K H' m' d v → Q v H'
  | .exc c fs S => ∀ H' m' cls dd, Le K H m H' m' → RS K H' m' S → RX K H' m' c fs cls dd → W cls dd σ H'
  | .bad => False
def PL (K : PySem.W.Frag) (W : WX) (H : Hp) (m : List Addr) (σ : L2.St) (r : ResL) (Q : List V → Hp → Prop) : Prop :=
  match r with
  | .ok ds S => ∀ H' m' vs, Le K H m H' m' → RS K H' m' S → RVs K H' m' ds vs → Q vs H'
  | .exc c fs S => ∀ H' m' cls dd, Le K H m H' m' → RS K H' m' S → RX K H' m' c fs cls dd → W cls dd σ H'
  | .bad => False
def PB (K : PySem.W.Frag) (W : WX) (H : Hp) (m : List Addr) (σ : L2.St) (r : ResB) (Q : Bool → Hp → Prop) : Prop :=
  match r with
  | .ok b S => ∀ H' m', Le K H m H' m' → RS K H' m' S → Q b H'
  | .exc c fs S => ∀ H' m' cls dd, Le K H m H' m' → RS K H' m' S → RX K H' m' c fs cls dd → W cls dd σ H'
  | .bad => False
section
variable {K : PySem.W.Frag} {W : WX} {H H1 : Hp} {m m1 : List Addr} {σ : L2.St}
theorem PV.re {r : Res} {Q : VK} (l : Le K H m H1 m1) (h : PV K W H m σ r Q) : PV K W H1 m1 σ r Q := by
  cases r with
  | ok d S => exact fun H' m' v l' => h H' m' v (l.trans l')
  | exc c fs S => exact fun H' m' c d l' => h H' m' c d (l.trans l')
  | bad => exact h
theorem PL.re {r : ResL} {Q : List V → Hp → Prop} (l : Le K H m H1 m1) (h : PL K W H m σ r Q) : PL K W H1 m1 σ r Q := by
  cases r with
  | ok d S => exact fun H' m' v l' => h H' m' v (l.trans l')
  | exc c fs S => exact fun H' m' c d l' => h H' m' c d (l.trans l')
  | bad => exact h
theorem PB.re {r : ResB} {Q : Bool → Hp → Prop} (l : Le K H m H1 m1) (h : PB K W H m σ r Q) : PB K W H1 m1 σ r Q := by
  cases r with
  | ok d S => exact fun H' m' l' => h H' m' (l.trans l')
  | exc c fs S => exact fun H' m' c d l' => h H' m' c d (l.trans l')
  | bad => exact h
end
/-- an expression's, an argument list's, a test's reading by its function -/
def tE (K : PySem.W.Frag) (W : WX) (f : FE) : L2.TE := fun σ H Q => ∃ m E S, RE K H m E σ ∧ RS K H m S ∧ PV K W H m σ (f E S) Q
def tL (K : PySem.W.Frag) (W : WX) (f : FL) : TA := fun σ H Q => ∃ m E S, RE K H m E σ ∧ RS K H m S ∧ PL K W H m σ (f E S) Q
def tT (K : PySem.W.Frag) (W : WX) (f : FB) : TT := fun σ H Q => ∃ m E S, RE K H m E σ ∧ RS K H m S ∧ PB K W H m σ (f E S) Q

/-! ## sequences -/
def Res.bind (r : Res) (k : D → Sto → Res) : Res := match r with
  | .ok d S => k d S
  | .exc c fs S => .exc c fs S
  | .bad => .bad
def Res.bindL (r : Res) (k : D → Sto → ResL) : ResL := match r with
  | .ok d S => k d S
  | .exc c fs S => .exc c fs S
  | .bad => .bad
def Res.bindB (r : Res) (k : D → Sto → ResB) : ResB := match r with
  | .ok d S => k d S
  | .exc c fs S => .exc c fs S
  | .bad => .bad
def ResL.bind (r : ResL) (k : List D → Sto → Res) : Res := match r with
  | .ok d S => k d S
  | .exc c fs S => .exc c fs S
  | .bad => .bad
def ResL.bindL (r : ResL) (k : List D → Sto → ResL) : ResL := match r with
  | .ok d S => k d S
  | .exc c fs S => .exc c fs S
  | .bad => .bad
def ResB.bind (r : ResB) (k : Bool → Sto → Res) : Res := match r with
  | .ok d S => k d S
  | .exc c fs S => .exc c fs S
  | .bad => .bad
def ResB.bindB (r : ResB) (k : Bool → Sto → ResB) : ResB := match r with
  | .ok d S => k d S
  | .exc c fs S => .exc c fs S
  | .bad => .bad
@[simp] theorem Res.bind_ok {d S} {k : D → Sto → Res} : (Res.ok d S).bind k = k d S := rfl
@[simp] theorem Res.bind_exc {c fs S} {k : D → Sto → Res} : (Res.exc c fs S).bind k = .exc c fs S := rfl
@[simp] theorem Res.bind_bad {k : D → Sto → Res} : Res.bad.bind k = .bad := rfl
@[simp] theorem Res.bindL_ok {d S} {k : D → Sto → ResL} : (Res.ok d S).bindL k = k d S := rfl
@[simp] theorem Res.bindL_exc {c fs S} {k : D → Sto → ResL} : (Res.exc c fs S).bindL k = .exc c fs S := rfl
@[simp] theorem Res.bindL_bad {k : D → Sto → ResL} : Res.bad.bindL k = .bad := rfl
@[simp] theorem Res.bindB_ok {d S} {k : D → Sto → ResB} : (Res.ok d S).bindB k = k d S := rfl
@[simp] theorem Res.bindB_exc {c fs S} {k : D → Sto → ResB} : (Res.exc c fs S).bindB k = .exc c fs S := rfl
@[simp] theorem Res.bindB_bad {k : D → Sto → ResB} : Res.bad.bindB k = .bad := rfl
@[simp] theorem ResL.bind_ok {d S} {k : List D → Sto → Res} : (ResL.ok d S).bind k = k d S := rfl
@[simp] theorem ResL.bind_exc {c fs S} {k : List D → Sto → Res} : (ResL.exc c fs S).bind k = .exc c fs S := rfl
@[simp] theorem ResL.bind_bad {k : List D → Sto → Res} : ResL.bad.bind k = .bad := rfl
@[simp] theorem ResL.bindL_ok {d S} {k : List D → Sto → ResL} : (ResL.ok d S).bindL k = k d S := rfl
@[simp] theorem ResL.bindL_exc {c fs S} {k : List D → Sto → ResL} : (ResL.exc c fs S).bindL k = .exc c fs S := rfl
@[simp] theorem ResL.bindL_bad {k : List D → Sto → ResL} : ResL.bad.bindL k = .bad := rfl
@[simp] theorem ResB.bind_ok {d S} {k : Bool → Sto → Res} : (ResB.ok d S).bind k = k d S := rfl
@[simp] theorem ResB.bind_exc {c fs S} {k : Bool → Sto → Res} : (ResB.exc c fs S).bind k = .exc c fs S := rfl
@[simp] theorem ResB.bind_bad {k : Bool → Sto → Res} : ResB.bad.bind k = .bad := rfl
@[simp] theorem ResB.bindB_ok {d S} {k : Bool → Sto → ResB} : (ResB.ok d S).bindB k = k d S := rfl
@[simp] theorem ResB.bindB_exc {c fs S} {k : Bool → Sto → ResB} : (ResB.exc c fs S).bindB k = .exc c fs S := rfl
@[simp] theorem ResB.bindB_bad {k : Bool → Sto → ResB} : ResB.bad.bindB k = .bad := rfl

section
variable {K : PySem.W.Frag} {W : WX} {σ : L2.St} {H : Hp}
/-- first f, then what hangs on its value -/
theorem tE.then {f : FE} {k : Ev → D → Sto → Res} {Q : VK} (h : tE K W (fun E S => (f E S).bind (k E)) σ H Q) :
    tE K W f σ H fun v H1 => ∃ m E S d, RE K H1 m E σ ∧ RS K H1 m S ∧ RV K H1 m d v ∧ PV K W H1 m σ (k E d S) Q := by
  obtain ⟨m, E, S, re, rs, p⟩ := h
  try dsimp only at p
  refine ⟨m, E, S, re, rs, ?_⟩
  cases e : f E S with
  | ok d S1 => rw [e] at p; exact fun H1 m1 v l rs1 rv => ⟨m1, E, S1, d, re.up l, rs1, rv, PV.re l p⟩
  | exc c fs S1 => rw [e] at p; exact p
  | bad => rw [e] at p; exact p
theorem tE.thenL {f : FE} {k : Ev → D → Sto → ResL} {Q : List V → Hp → Prop} (h : tL K W (fun E S => (f E S).bindL (k E)) σ H Q) :
    tE K W f σ H fun v H1 => ∃ m E S d, RE K H1 m E σ ∧ RS K H1 m S ∧ RV K H1 m d v ∧ PL K W H1 m σ (k E d S) Q := by
  obtain ⟨m, E, S, re, rs, p⟩ := h
  try dsimp only at p
  refine ⟨m, E, S, re, rs, ?_⟩
  cases e : f E S with
  | ok d S1 => rw [e] at p; exact fun H1 m1 v l rs1 rv => ⟨m1, E, S1, d, re.up l, rs1, rv, PL.re l p⟩
  | exc c fs S1 => rw [e] at p; exact p
  | bad => rw [e] at p; exact p
theorem tE.thenB {f : FE} {k : Ev → D → Sto → ResB} {Q : Bool → Hp → Prop} (h : tT K W (fun E S => (f E S).bindB (k E)) σ H Q) :
    tE K W f σ H fun v H1 => ∃ m E S d, RE K H1 m E σ ∧ RS K H1 m S ∧ RV K H1 m d v ∧ PB K W H1 m σ (k E d S) Q := by
  obtain ⟨m, E, S, re, rs, p⟩ := h
  try dsimp only at p
  refine ⟨m, E, S, re, rs, ?_⟩
  cases e : f E S with
  | ok d S1 => rw [e] at p; exact fun H1 m1 v l rs1 rv => ⟨m1, E, S1, d, re.up l, rs1, rv, PB.re l p⟩
  | exc c fs S1 => rw [e] at p; exact p
  | bad => rw [e] at p; exact p
theorem tL.then {f : FL} {k : Ev → List D → Sto → Res} {Q : VK} (h : tE K W (fun E S => (f E S).bind (k E)) σ H Q) :
    tL K W f σ H fun vs H1 => ∃ m E S ds, RE K H1 m E σ ∧ RS K H1 m S ∧ RVs K H1 m ds vs ∧ PV K W H1 m σ (k E ds S) Q := by
  obtain ⟨m, E, S, re, rs, p⟩ := h
  try dsimp only at p
  refine ⟨m, E, S, re, rs, ?_⟩
  cases e : f E S with
  | ok d S1 => rw [e] at p; exact fun H1 m1 v l rs1 rv => ⟨m1, E, S1, d, re.up l, rs1, rv, PV.re l p⟩
  | exc c fs S1 => rw [e] at p; exact p
  | bad => rw [e] at p; exact p
theorem tL.thenL {f : FL} {k : Ev → List D → Sto → ResL} {Q : List V → Hp → Prop} (h : tL K W (fun E S => (f E S).bindL (k E)) σ H Q) :
    tL K W f σ H fun vs H1 => ∃ m E S ds, RE K H1 m E σ ∧ RS K H1 m S ∧ RVs K H1 m ds vs ∧ PL K W H1 m σ (k E ds S) Q := by
  obtain ⟨m, E, S, re, rs, p⟩ := h
  try dsimp only at p
  refine ⟨m, E, S, re, rs, ?_⟩
  cases e : f E S with
  | ok d S1 => rw [e] at p; exact fun H1 m1 v l rs1 rv => ⟨m1, E, S1, d, re.up l, rs1, rv, PL.re l p⟩
  | exc c fs S1 => rw [e] at p; exact p
  | bad => rw [e] at p; exact p
theorem tT.then {f : FB} {k : Ev → Bool → Sto → Res} {Q : VK} (h : tE K W (fun E S => (f E S).bind (k E)) σ H Q) :
    tT K W f σ H fun b H1 => ∃ m E S, RE K H1 m E σ ∧ RS K H1 m S ∧ PV K W H1 m σ (k E b S) Q := by
  obtain ⟨m, E, S, re, rs, p⟩ := h
  try dsimp only at p
  refine ⟨m, E, S, re, rs, ?_⟩
  cases e : f E S with
  | ok d S1 => rw [e] at p; exact fun H1 m1 l rs1 => ⟨m1, E, S1, re.up l, rs1, PV.re l p⟩
  | exc c fs S1 => rw [e] at p; exact p
  | bad => rw [e] at p; exact p
theorem tT.thenB {f : FB} {k : Ev → Bool → Sto → ResB} {Q : Bool → Hp → Prop} (h : tT K W (fun E S => (f E S).bindB (k E)) σ H Q) :
    tT K W f σ H fun b H1 => ∃ m E S, RE K H1 m E σ ∧ RS K H1 m S ∧ PB K W H1 m σ (k E b S) Q := by
  obtain ⟨m, E, S, re, rs, p⟩ := h
  try dsimp only at p
  refine ⟨m, E, S, re, rs, ?_⟩
  cases e : f E S with
  | ok d S1 => rw [e] at p; exact fun H1 m1 l rs1 => ⟨m1, E, S1, re.up l, rs1, PB.re l p⟩
  | exc c fs S1 => rw [e] at p; exact p
  | bad => rw [e] at p; exact p
theorem tE.mono {f : FE} {Q Q' : VK} (h : tE K W f σ H Q) (hQ : ∀ v H', Q v H' → Q' v H') : tE K W f σ H Q' := by
  obtain ⟨m, E, S, re, rs, p⟩ := h
  try dsimp only at p
  refine ⟨m, E, S, re, rs, ?_⟩
  cases e : f E S with
  | ok d S1 => rw [e] at p; exact fun H1 m1 v l rs1 rv => hQ _ _ (p H1 m1 v l rs1 rv)
  | exc c fs S1 => rw [e] at p; exact p
  | bad => rw [e] at p; exact p
theorem tL.mono {f : FL} {Q Q' : List V → Hp → Prop} (h : tL K W f σ H Q) (hQ : ∀ v H', Q v H' → Q' v H') : tL K W f σ H Q' := by
  obtain ⟨m, E, S, re, rs, p⟩ := h
  try dsimp only at p
  refine ⟨m, E, S, re, rs, ?_⟩
  cases e : f E S with
  | ok d S1 => rw [e] at p; exact fun H1 m1 v l rs1 rv => hQ _ _ (p H1 m1 v l rs1 rv)
  | exc c fs S1 => rw [e] at p; exact p
  | bad => rw [e] at p; exact p
theorem tT.mono {f : FB} {Q Q' : Bool → Hp → Prop} (h : tT K W f σ H Q) (hQ : ∀ v H', Q v H' → Q' v H') : tT K W f σ H Q' := by
  obtain ⟨m, E, S, re, rs, p⟩ := h
  try dsimp only at p
  refine ⟨m, E, S, re, rs, ?_⟩
  cases e : f E S with
  | ok d S1 => rw [e] at p; exact fun H1 m1 l rs1 => hQ _ _ (p H1 m1 l rs1)
  | exc c fs S1 => rw [e] at p; exact p
  | bad => rw [e] at p; exact p
/-- two in a row -/
theorem tE.two {f g : FE} {k : D → D → Sto → Res} {Q : VK} (h : tE K W (fun E S => (f E S).bind fun x S1 => (g E S1).bind fun y S2 => k x y S2) σ H Q) :
    tE K W f σ H fun v H1 => tE K W g σ H1 fun u H2 => ∃ m S x y, RS K H2 m S ∧ RV K H2 m x v ∧ RV K H2 m y u ∧ PV K W H2 m σ (k x y S) Q := by
  refine (tE.then (k := fun E x S1 => (g E S1).bind fun y S2 => k x y S2) h).mono fun v H1 ⟨m, E, S, d, re, rs, rv, p⟩ => ?_
  try dsimp only at p
  refine ⟨m, E, S, re, rs, ?_⟩
  cases e : g E S with
  | ok d2 S1 => rw [e] at p; exact fun H2 m2 u l rs2 ru => ⟨m2, S1, d, d2, rs2, rv.up l, ru, PV.re l p⟩
  | exc c fs S1 => rw [e] at p; exact p
  | bad => rw [e] at p; exact p
theorem tE.twoB {f g : FE} {k : D → D → Sto → ResB} {Q : Bool → Hp → Prop} (h : tT K W (fun E S => (f E S).bindB fun x S1 => (g E S1).bindB fun y S2 => k x y S2) σ H Q) :
    tE K W f σ H fun v H1 => tE K W g σ H1 fun u H2 => ∃ m S x y, RS K H2 m S ∧ RV K H2 m x v ∧ RV K H2 m y u ∧ PB K W H2 m σ (k x y S) Q := by
  refine (tE.thenB (k := fun E x S1 => (g E S1).bindB fun y S2 => k x y S2) h).mono fun v H1 ⟨m, E, S, d, re, rs, rv, p⟩ => ?_
  try dsimp only at p
  refine ⟨m, E, S, re, rs, ?_⟩
  cases e : g E S with
  | ok d2 S1 => rw [e] at p; exact fun H2 m2 u l rs2 ru => ⟨m2, S1, d, d2, rs2, rv.up l, ru, PB.re l p⟩
  | exc c fs S1 => rw [e] at p; exact p
  | bad => rw [e] at p; exact p
end

/-! ## operations by values -/
/-- a two-place operation, by data -/
def O2 (X : Cx) (f : Value → Value → Sem Value) (g : D → D → Sto → Res) : Prop :=
  ∀ (W : WX) (pins : List (Addr × Obj)) (s : Shared) (σ : L2.St) (H : Hp) (m : List Addr) (S : Sto) (d e : D) (x y : V) (v u : Value) (Q : VK), Inv X pins σ H s → RS X.K H m S → RV X.K H m d x → RV X.K H m e y → RelV x v → RelV y u →
    PV X.K W H m σ (g d e S) Q → wpAny (model X.prog X.w) X.A (f v u) (EP X pins σ Q) X.xe s
def O1 (X : Cx) (f : Value → Sem Value) (g : D → Sto → Res) : Prop :=
  ∀ (W : WX) (pins : List (Addr × Obj)) (s : Shared) (σ : L2.St) (H : Hp) (m : List Addr) (S : Sto) (d : D) (x : V) (v : Value) (Q : VK), Inv X pins σ H s → RS X.K H m S → RV X.K H m d x → RelV x v →
    PV X.K W H m σ (g d S) Q → wpAny (model X.prog X.w) X.A (f v) (EP X pins σ Q) X.xe s
/-- a call of a builtin with values -/
def OC (X : Cx) (f : Value) (g : List D → Sto → Res) : Prop :=
  ∀ (W : WX) (pins : List (Addr × Obj)) (s : Shared) (σ : L2.St) (H : Hp) (m : List Addr) (S : Sto) (ds : List D) (xs : List V) (us : List Value) (Q : VK), Inv X pins σ H s → RS X.K H m S → RVs X.K H m ds xs → Vals xs us →
    PV X.K W H m σ (g ds S) Q → wpAny (model X.prog X.w) X.A (call f us) (EP X pins σ Q) X.xe s
/-- a builtin's method: the receiver's type is T -/
def OM (X : Cx) (T : String) (id : String) (g : D → List D → Sto → Res) : Prop :=
  ∀ (W : WX) (pins : List (Addr × Obj)) (s : Shared) (σ : L2.St) (H : Hp) (m : List Addr) (S : Sto) (d : D) (ds : List D) (x : V) (xs : List V) (v : Value) (us : List Value) (Q : VK), Inv X pins σ H s → RS X.K H m S → RV X.K H m d x → RVs X.K H m ds xs → RelV x v → Vals xs us →
    PV X.K W H m σ (g d ds S) Q → wpAny (model X.prog X.w) X.A (call (.builtin id) (v :: us)) (EP X pins σ Q) X.xe s

/-! ## expressions -/
def vV (i : Nat) : FE := fun E S => match E[i]? with
  | some (some d) => .ok d S
  | _ => .bad
def vC (d : D) : FE := fun _ S => .ok d S
def vBin (g : D → D → Sto → Res) (f1 f2 : FE) : FE := fun E S => (f1 E S).bind fun x S1 => (f2 E S1).bind fun y S2 => g x y S2
def vUn (g : D → Sto → Res) (f1 : FE) : FE := fun E S => (f1 E S).bind fun x S1 => g x S1
def lNil : FL := fun _ S => .ok [] S
def lCons (f : FE) (l : FL) : FL := fun E S => (f E S).bindL fun x S1 => (l E S1).bindL fun xs S2 => .ok (x :: xs) S2
def vTup (l : FL) : FE := fun E S => (l E S).bind fun xs S1 => if xs.length ≤ 1000 then .ok (.tup xs) S1 else .bad
def vLst (l : FL) : FE := fun E S => (l E S).bind fun xs S1 => if xs.length ≤ 1000 then .ok (.ref S1.length) (S1 ++ [.lst xs]) else .bad
def vEmp : FE := fun _ S => .ok .emp S
def vIf (t : FB) (f1 f2 : FE) : FE := fun E S => (t E S).bind fun b S1 => if b then f1 E S1 else f2 E S1
def vCall (g : List D → Sto → Res) (l : FL) : FE := fun E S => (l E S).bind g
def vMet (g : D → List D → Sto → Res) (f : FE) (l : FL) : FE := fun E S => (f E S).bind fun x S1 => (l E S1).bind fun xs S2 => g x xs S2
/-- truth -/
def truth (d : D) (S : Sto) : Option Bool := match d with
  | .non => some false
  | .bl b => some b
  | .int i => some (i != 0)
  | .str x => if x.length ≤ sizeLine then some ((x.length : Int) != 0) else none
  | .tup xs => some (!xs.isEmpty)
  | .fl xs => some (!xs.isEmpty)
  | .emp => some false
  | .ref n => match S[n]? with
    | some (.lst xs) => some (!xs.isEmpty)
    | _ => none
def bOf (f : FE) : FB := fun E S => (f E S).bindB fun d S1 => match truth d S1 with
  | some b => .ok b S1
  | none => .bad
def bAnd (f g : FB) : FB := fun E S => (f E S).bindB fun b S1 => if b then g E S1 else .ok false S1
def bOr (f g : FB) : FB := fun E S => (f E S).bindB fun b S1 => if b then .ok true S1 else g E S1
def bNot (f : FB) : FB := fun E S => (f E S).bindB fun b S1 => .ok (!b) S1
/-- a comparison as a test -/
def bCmp (g : D → D → Sto → Res) (f1 f2 : FE) : FB := fun E S => (f1 E S).bindB fun x S1 => (f2 E S1).bindB fun y S2 => (g x y S2).bindB fun z S3 => match z with
  | .bl b => .ok b S3
  | _ => .bad
/-- and, or, not as values -/
def vAnd (f g : FE) : FE := fun E S => (f E S).bind fun d S1 => match truth d S1 with
  | some b => if b then g E S1 else .ok d S1
  | none => .bad
def vOr (f g : FE) : FE := fun E S => (f E S).bind fun d S1 => match truth d S1 with
  | some b => if b then .ok d S1 else g E S1
  | none => .bad
def vNot (f : FE) : FE := fun E S => (f E S).bind fun d S1 => match truth d S1 with
  | some b => .ok (.bl (!b)) S1
  | none => .bad

section
variable {X : Cx} {W : WX} {pos : Pos}
theorem ok_here {K : PySem.W.Frag} {H : Hp} {m : List Addr} {σ : L2.St} {d : D} {S : Sto} {v : V} {Q : VK} (rs : RS K H m S) (rv : RV K H m d v) (p : PV K W H m σ (.ok d S) Q) : Q v H := p H m v Le.refl rs rv
theorem RV.len_str {K H m x v} (h : RV K H m (.str x) v) : v = .str x := by cases h; rfl

theorem e_var {i : Nat} {x : Str} (hN : X.N[i]? = some x) (hv : Vis X.env.scope x) (hd : (x == ("__debug__" : Str)) = false := by decide) (hcd : (x == ("__classdict__" : Str)) = false := by decide) : PE X (.Name x pos) (tE X.K W (vV i)) := by
  refine ⟨fun pins s σ H Q I h => (pe_var hN hv hd hcd).run pins s σ H Q I ?_⟩
  obtain ⟨m, E, S, re, rs, p⟩ := h
  unfold vV at p
  cases e : E[i]? with
  | none => rw [e] at p; exact p.elim
  | some o =>
    cases o with
    | none => rw [e] at p; exact p.elim
    | some d =>
      rw [e] at p
      obtain ⟨v, h1, h2⟩ := re.at_ i d e
      exact ⟨v, h1, p H m v Le.refl rs h2⟩
theorem e_c {e : Expr} {d : D} {v : V} (h : PE X e (tC v)) (r : ∀ H m, RV X.K H m d v) : PE X e (tE X.K W (vC d)) :=
  ⟨fun pins s σ H Q I ⟨m, E, S, re, rs, p⟩ => h.run pins s σ H Q I (p H m v Le.refl rs (r H m))⟩
theorem e_int {i j} : PE X (.Constant (.int i) j pos) (tE X.K W (vC (.int i))) := e_c pe_int fun _ _ => .int _
theorem e_bl {i j} : PE X (.Constant (.bool i) j pos) (tE X.K W (vC (.bl i))) := e_c pe_bl fun _ _ => .bl _
theorem e_non {j} : PE X (.Constant .none j pos) (tE X.K W (vC .non)) := e_c pe_non fun _ _ => .non
theorem e_str {i j} : PE X (.Constant (.str i) j pos) (tE X.K W (vC (.str i))) := e_c pe_str fun _ _ => .str _
theorem e_bin {op : Operator} {a b : Expr} {f1 f2 : FE} {g} (ho : O2 X (binaryOp op) g) (ha : PE X a (tE X.K W f1)) (hb : PE X b (tE X.K W f2)) : PE X (.BinOp a op b pos) (tE X.K W (vBin g f1 f2)) := by
  refine ⟨fun pins s σ H Q I h => ?_⟩
  refine wpAny_BinOp (binT ha hb I (tE.two h) fun v u s2 x y H2 I2 rx ry ⟨m, S, d, e, rs, rd, re, p⟩ => ?_)
  exact ho W pins s2 σ H2 m S d e x y v u Q I2 rs rd re rx ry p
theorem e_cmp {op : CmpOp} {a b : Expr} {f1 f2 : FE} {g} (ho : O2 X (compareOp op) g) (hm : behindInMarks op b = false) (ha : PE X a (tE X.K W f1)) (hb : PE X b (tE X.K W f2)) : PE X (.Compare a [op] [b] pos) (tE X.K W (vBin g f1 f2)) := by
  refine ⟨fun pins s σ H Q I h => ?_⟩
  refine wpAny_Compare1 (binT ha hb I (tE.two h) fun v u s2 x y H2 I2 rx ry ⟨m, S, d, e, rs, rd, re, p⟩ => ?_) hm
  exact ho W pins s2 σ H2 m S d e x y v u Q I2 rs rd re rx ry p
theorem e_un {op : UnaryOp} {a : Expr} {f1 : FE} {g} (ho : O1 X (unaryOp op) g) (ha : PE X a (tE X.K W f1)) : PE X (.UnaryOp op a pos) (tE X.K W (vUn g f1)) := by
  refine ⟨fun pins s σ H Q I h => ?_⟩
  refine UnaryOp_ (thn (ha.run pins s σ H _ I (tE.then (k := fun _ x S1 => g x S1) h)) fun v s1 ⟨x, H1, I1, r1, m, E, S, d, re, rs, rd, p⟩ => ?_)
  exact ho W pins s1 σ H1 m S d x v Q I1 rs rd r1 p
theorem a_nil : PA X [] (tL X.K W lNil) := ⟨fun pos pins s σ H Q I ⟨m, E, S, re, rs, p⟩ => pa_nil.run pos pins s σ H Q I (p H m [] Le.refl rs .nil)⟩
theorem a_cons {e : Expr} {es : List Expr} {f : FE} {l : FL} (ha : PE X e (tE X.K W f)) (hr : PA X es (tL X.K W l)) (hs : starEach (e :: es) X.env = (false, eval e X.env) :: starEach es X.env := by rfl) : PA X (e :: es) (tL X.K W (lCons f l)) := by
  refine ⟨fun pos pins s σ H Q I h => (pa_cons ha hr hs).run pos pins s σ H Q I ?_⟩
  refine (tE.thenL (k := fun E x S1 => (l E S1).bindL fun xs S2 => .ok (x :: xs) S2) h).mono fun v H1 ⟨m, E, S, d, re, rs, rv, p⟩ => ?_
  try dsimp only at p
  refine ⟨m, E, S, re, rs, ?_⟩
  cases e : l E S with
  | ok d2 S1 => rw [e] at p; exact fun H2 m2 u l rs2 ru => p H2 m2 (v :: u) l rs2 (.cons (rv.up l) ru)
  | exc c fs S1 => rw [e] at p; exact p
  | bad => rw [e] at p; exact p
theorem k_nil : PK X [] (tL X.K W lNil) := ⟨fun pos pins s σ H Q I ⟨m, E, S, re, rs, p⟩ => pk_nil.run pos pins s σ H Q I (p H m [] Le.refl rs .nil)⟩
theorem k_cons {e : Expr} {kws : List Keyword} {nm : Option Str} {kpos : Pos} {f : FE} {l : FL} (ha : PE X e (tE X.K W f)) (hr : PK X kws (tL X.K W l)) : PK X (⟨nm, e, kpos⟩ :: kws) (tL X.K W (lCons f l)) := by
  refine ⟨fun pos pins s σ H Q I h => (pk_cons ha hr).run pos pins s σ H Q I ?_⟩
  refine (tE.thenL (k := fun E x S1 => (l E S1).bindL fun xs S2 => .ok (x :: xs) S2) h).mono fun v H1 ⟨m, E, S, d, re, rs, rv, p⟩ => ?_
  try dsimp only at p
  refine ⟨m, E, S, re, rs, ?_⟩
  cases e : l E S with
  | ok d2 S1 => rw [e] at p; exact fun H2 m2 u l rs2 ru => p H2 m2 (v :: u) l rs2 (.cons (rv.up l) ru)
  | exc c fs S1 => rw [e] at p; exact p
  | bad => rw [e] at p; exact p
theorem le1000 {n : Nat} (h : n ≤ 1000) : n ≤ sizeLine := Nat.le_trans h (by decide)
theorem e_tup {es : List Expr} {l : FL} {x1} (h : PA X es (tL X.K W l)) : PE X (.Tuple es x1 pos) (tE X.K W (vTup l)) := by
  refine ⟨fun pins s σ H Q I hq => (pe_tup h).run pins s σ H Q I ?_⟩
  refine (tL.then (k := fun _ xs S1 => if xs.length ≤ 1000 then .ok (.tup xs) S1 else .bad) hq).mono fun vs H1 ⟨m, E, S, ds, re, rs, rv, p⟩ => ?_
  try dsimp only at p
  by_cases hz : ds.length ≤ 1000
  · rw [if_pos hz] at p
    refine ⟨by rw [← rv.len]; exact le1000 hz, fun q hq => ?_⟩
    have l1 : Le X.K H1 m (upd H1 q (.tup vs)) m := Le.new hq
    exact p _ m _ l1 (rs.side hq) (.tup (SqT.of upd_same) (rv.up l1))
  · rw [if_neg hz] at p; exact p.elim
theorem e_lst {es : List Expr} {l : FL} (h : PA X es (tL X.K W l)) : PE X (.List es pos) (tE X.K W (vLst l)) := by
  refine ⟨fun pins s σ H Q I hq => (pe_lst h).run pins s σ H Q I ?_⟩
  refine (tL.then (k := fun _ xs S1 => if xs.length ≤ 1000 then .ok (.ref S1.length) (S1 ++ [.lst xs]) else .bad) hq).mono fun vs H1 ⟨m, E, S, ds, re, rs, rv, p⟩ => ?_
  try dsimp only at p
  by_cases hz : ds.length ≤ 1000
  · rw [if_pos hz] at p
    refine ⟨by rw [← rv.len]; exact le1000 hz, fun q hq => ?_⟩
    obtain ⟨l1, r1⟩ := rs.alloc hq rv
    exact p _ _ _ l1 r1 (.ref (by rw [← rs.len]; simp))
  · rw [if_neg hz] at p; exact p.elim
theorem e_emp : PE X (.Dict [] [] pos) (tE X.K W vEmp) := by
  refine ⟨fun pins s σ H Q I ⟨m, E, S, re, rs, p⟩ => pe_dnewK.run pins s σ H Q I fun q hq => ?_⟩
  exact p _ m _ (Le.new hq) (rs.side hq) (.emp upd_same)
theorem e_if {c a b : Expr} {t : FB} {f1 f2 : FE} (hc : PT X c (tT X.K W t)) (ha : PE X a (tE X.K W f1)) (hb : PE X b (tE X.K W f2)) : PE X (.IfExp c a b pos) (tE X.K W (vIf t f1 f2)) := by
  refine ⟨fun pins s σ H Q I h => (pe_ifExp hc ha hb).run pins s σ H Q I ?_⟩
  refine (tT.then (k := fun E b S1 => if b then f1 E S1 else f2 E S1) h).mono fun b H1 ⟨m, E, S, re, rs, p⟩ => ?_
  try dsimp only at p
  cases b with
  | true => exact iteT ⟨m, E, S, re, rs, p⟩
  | false => exact iteF ⟨m, E, S, re, rs, p⟩
theorem truV {K : PySem.W.Frag} {H : Hp} {m : List Addr} {S : Sto} {d : D} {v : V} {b : Bool} (rs : RS K H m S) (rv : RV K H m d v) (h : truth d S = some b) : TruV K v H b := by
  cases rv with
  | non => cases h; rfl
  | bl b => cases h; rfl
  | int i => cases h; rfl
  | str x =>
    have h' : (if x.length ≤ sizeLine then some ((x.length : Int) != 0) else none) = some b := h
    by_cases hz : x.length ≤ sizeLine
    · rw [if_pos hz] at h'; cases h'; exact ⟨hz, rfl⟩
    · rw [if_neg hz] at h'; cases h'
  | tup h1 h2 =>
    cases h
    refine .inr (.inl ⟨_, h1, ?_⟩)
    cases h2 <;> rfl
  | fl h1 h2 =>
    cases h
    refine .inl ⟨_, h1.sq, ?_⟩
    cases h2 <;> rfl
  | emp h1 => cases h; exact .inr (.inr ⟨_, h1, rfl⟩)
  | ref h1 =>
    rename_i n a
    unfold truth at h
    cases e : S[n]? with
    | none => simp [e] at h
    | some c =>
      cases c with
      | lst xs =>
        simp only [e] at h
        cases h
        obtain ⟨a', vs, e1, h2, h3, h4⟩ := rs.list e (.ref h1)
        cases e1
        refine .inl ⟨_, SqL.of h3, ?_⟩
        cases h4 <;> rfl
      | exc c fs => simp [e] at h
      | ins c fs => simp [e] at h
theorem t_of {a : Expr} {f : FE} (ha : PE X a (tE X.K W f)) (he : ∀ whole, isTrue a X.env whole = (do let v ← whole; standAt a.pos; holding [v] (truthy v)) := by intro _; rfl) : PT X a (tT X.K W (bOf f)) := by
  refine ⟨fun pins s σ H Q I h => (pt_truth ha he).run pins s σ H Q I ?_⟩
  refine (tE.thenB (k := fun _ d S1 => match truth d S1 with | some b => .ok b S1 | none => .bad) h).mono fun v H1 ⟨m, E, S, d, re, rs, rv, p⟩ => ?_
  try dsimp only at p
  cases e : truth d S with
  | none => simp [e] at p; exact p.elim
  | some b => simp [e] at p; exact ⟨b, truV rs rv e, p H1 m Le.refl rs⟩
theorem t_cmp {op : CmpOp} {a b : Expr} {f1 f2 : FE} {g} (ho : O2 X (compareOp op) g) (hm : behindInMarks op b = false) (ha : PE X a (tE X.K W f1)) (hb : PE X b (tE X.K W f2)) : PT X (.Compare a [op] [b] pos) (tT X.K W (bCmp g f1 f2)) := by
  refine ⟨fun pins s σ H Q I h => ?_⟩
  refine wpAny_isTrue_Compare1 (binT ha hb I (tE.twoB h) fun v u s2 x y H2 I2 rx ry ⟨m, S, d, e, rs, rd, re, p⟩ => ?_) hm
  have q : PV X.K W H2 m σ (g d e S) (fun z H3 => ∃ k, z = .bl k ∧ Q k H3) := by
    cases ee : g d e S with
    | ok z S1 =>
      rw [ee] at p
      intro H3 m3 z' l rs3 rz
      cases z with
      | bl k => cases rz; exact ⟨k, rfl, p H3 m3 l rs3⟩
      | _ => exact p.elim
    | exc c fs S1 => rw [ee] at p; exact p
    | bad => rw [ee] at p; exact p
  refine thn (ho W pins s2 σ H2 m S d e x y v u _ I2 rs rd re rx ry q) fun c s3 ⟨z, H3, I3, r3, k, e, q3⟩ => ?_
  subst e
  cases r3
  exact wpAny_truthy_bool ⟨H3, I3, q3⟩
theorem w_and1 {a : Expr} {f : FB} (ha : PT X a (tT X.K W f)) : PW X (.BoolOp .And [a] pos) (tT X.K W f) := pw_and1 ha
theorem w_or1 {a : Expr} {f : FB} (ha : PT X a (tT X.K W f)) : PW X (.BoolOp .Or [a] pos) (tT X.K W f) := pw_or1 ha
theorem w_and {a b : Expr} {rest : List Expr} {f g : FB} (ha : PT X a (tT X.K W f)) (hb : PW X (.BoolOp .And (b :: rest) pos) (tT X.K W g)) : PW X (.BoolOp .And (a :: b :: rest) pos) (tT X.K W (bAnd f g)) := by
  refine ⟨fun wh pins s σ H Q I h => (pw_and ha hb).run wh pins s σ H Q I ?_⟩
  refine (tT.thenB (k := fun E b S1 => if b then g E S1 else .ok false S1) h).mono fun b H1 ⟨m, E, S, re, rs, p⟩ => ?_
  try dsimp only at p
  cases b with
  | true => exact iteT ⟨m, E, S, re, rs, p⟩
  | false => exact iteF (p H1 m Le.refl rs)
theorem w_or {a b : Expr} {rest : List Expr} {f g : FB} (ha : PT X a (tT X.K W f)) (hb : PW X (.BoolOp .Or (b :: rest) pos) (tT X.K W g)) : PW X (.BoolOp .Or (a :: b :: rest) pos) (tT X.K W (bOr f g)) := by
  refine ⟨fun wh pins s σ H Q I h => (pw_or ha hb).run wh pins s σ H Q I ?_⟩
  refine (tT.thenB (k := fun E b S1 => if b then .ok true S1 else g E S1) h).mono fun b H1 ⟨m, E, S, re, rs, p⟩ => ?_
  try dsimp only at p
  cases b with
  | true => exact iteT (p H1 m Le.refl rs)
  | false => exact iteF ⟨m, E, S, re, rs, p⟩
theorem t_not {a : Expr} {f : FB} (ha : PT X a (tT X.K W f)) : PT X (.UnaryOp .Not a pos) (tT X.K W (bNot f)) := by
  refine ⟨fun pins s σ H Q I h => (pt_not ha).run pins s σ H Q I ?_⟩
  exact (tT.thenB (k := fun E b S1 => .ok (!b) S1) h).mono fun b H1 ⟨m, E, S, re, rs, p⟩ => p H1 m Le.refl rs
theorem e_and {a b : Expr} {rest : List Expr} {f g : FE} (ha : PE X a (tE X.K W f)) (hb : PE X (.BoolOp .And (b :: rest) pos) (tE X.K W g)) : PE X (.BoolOp .And (a :: b :: rest) pos) (tE X.K W (vAnd f g)) := by
  refine ⟨fun pins s σ H Q I h => (pe_andT ha hb).run pins s σ H Q I ?_⟩
  refine (tE.then (k := fun E d S1 => match truth d S1 with | some b => if b then g E S1 else .ok d S1 | none => .bad) h).mono fun v H1 ⟨m, E, S, d, re, rs, rv, p⟩ => ?_
  try dsimp only at p
  cases e : truth d S with
  | none => simp [e] at p; exact p.elim
  | some b =>
    simp only [e] at p
    refine ⟨b, truV rs rv e, ?_⟩
    cases b with
    | true => exact iteT ⟨m, E, S, re, rs, p⟩
    | false => exact iteF (p H1 m v Le.refl rs rv)
theorem e_or {a b : Expr} {rest : List Expr} {f g : FE} (ha : PE X a (tE X.K W f)) (hb : PE X (.BoolOp .Or (b :: rest) pos) (tE X.K W g)) : PE X (.BoolOp .Or (a :: b :: rest) pos) (tE X.K W (vOr f g)) := by
  refine ⟨fun pins s σ H Q I h => (pe_orT ha hb).run pins s σ H Q I ?_⟩
  refine (tE.then (k := fun E d S1 => match truth d S1 with | some b => if b then .ok d S1 else g E S1 | none => .bad) h).mono fun v H1 ⟨m, E, S, d, re, rs, rv, p⟩ => ?_
  try dsimp only at p
  cases e : truth d S with
  | none => simp [e] at p; exact p.elim
  | some b =>
    simp only [e] at p
    refine ⟨b, truV rs rv e, ?_⟩
    cases b with
    | true => exact iteT (p H1 m v Le.refl rs rv)
    | false => exact iteF ⟨m, E, S, re, rs, p⟩
theorem e_one {op} {a : Expr} {f : FE} (h : PE X a (tE X.K W f)) : PE X (.BoolOp op [a] pos) (tE X.K W f) := pe_one h
theorem e_not {a : Expr} {f : FE} (ha : PE X a (tE X.K W f)) : PE X (.UnaryOp .Not a pos) (tE X.K W (vNot f)) := by
  refine ⟨fun pins s σ H Q I h => (pe_notT ha).run pins s σ H Q I ?_⟩
  refine (tE.then (k := fun E d S1 => match truth d S1 with | some b => .ok (.bl (!b)) S1 | none => .bad) h).mono fun v H1 ⟨m, E, S, d, re, rs, rv, p⟩ => ?_
  try dsimp only at p
  cases e : truth d S with
  | none => simp [e] at p; exact p.elim
  | some b =>
    simp only [e] at p
    exact ⟨b, truV rs rv e, p H1 m _ Le.refl rs (.bl _)⟩
/-- f(e, ..), f a builtin -/
theorem e_callB {x : Str} {id : String} {p : Pos} {e : Expr} {es : List Expr} {l : FL} {g} (hc : OC X (.builtin id) g) (hg : Gl X x) (hm : X.mg x = none) (hv : bootBuiltins x = some (.builtin id)) (ha : PA X (e :: es) (tL X.K W l))
    (hn : x ≠ "__name__" := by decide) (hdb : (x == ("__debug__" : Str)) = false := by decide) (he : starEach (e :: es) X.env = (false, eval e X.env) :: starEach es X.env := by rfl) (hpl : (backTo pos (starEach es X.env)).any (·.1) = false := by rfl) :
    PE X (.Call (.Name x p) (e :: es) [] pos) (tE X.K W (vCall g l)) := by
  refine ⟨fun pins s σ H Q I h => ?_⟩
  refine wpAny_Call_Name_kw (ld_blt I hg hm hv ?_ hn hdb)
  exact callWith_builtin1 (thn (ha.run pos pins s σ H _ I (tL.then (k := fun _ => g) h)) fun us s1 ⟨vs, H1, I1, r, m, E, S, ds, re, rs, rv, p⟩ => hc W pins s1 σ H1 m S ds vs us Q I1 rs rv r p) he hpl
/-- f(e, ..), f a builtin of a module that is imported by its name -/
theorem e_callM {x : Str} {id : String} {p : Pos} {e : Expr} {es : List Expr} {l : FL} {g} (hc : OC X (.builtin id) g) (hg : Gl X x) (hm : X.mg x = some (.builtin id)) (ha : PA X (e :: es) (tL X.K W l)) (hdb : (x == ("__debug__" : Str)) = false := by decide)
    (he : starEach (e :: es) X.env = (false, eval e X.env) :: starEach es X.env := by rfl)
    (hpl : (backTo pos (starEach es X.env)).any (·.1) = false := by rfl) : PE X (.Call (.Name x p) (e :: es) [] pos) (tE X.K W (vCall g l)) := by
  refine ⟨fun pins s σ H Q I h => ?_⟩
  refine wpAny_Call_Name_kw (ld_glob I hg hm ?_ hdb)
  exact callWith_builtin1 (thn (ha.run pos pins s σ H _ I (tL.then (k := fun _ => g) h)) fun us s1 ⟨vs, H1, I1, r, m, E, S, ds, re, rs, rv, p⟩ => hc W pins s1 σ H1 m S ds vs us Q I1 rs rv r p) he hpl
/-- T(e, ..), T a type of the language -/
theorem e_callT {x : Str} {T : String} {p : Pos} {e : Expr} {es : List Expr} {l : FL} {g} (hc : OC X (.type T) g) (hg : Gl X x) (hm : X.mg x = none) (hv : bootBuiltins x = some (.type T)) (ha : PA X (e :: es) (tL X.K W l))
    (hn : x ≠ "__name__" := by decide) (hdb : (x == ("__debug__" : Str)) = false := by decide)
    (he : starEach (e :: es) X.env = (false, eval e X.env) :: starEach es X.env := by rfl)
    (hpl : (backTo pos (starEach es X.env)).any (·.1) = false := by rfl) : PE X (.Call (.Name x p) (e :: es) [] pos) (tE X.K W (vCall g l)) := by
  refine ⟨fun pins s σ H Q I h => ?_⟩
  refine wpAny_Call_Name_kw (ld_blt I hg hm hv ?_ hn hdb)
  exact callWith_type1 (thn (ha.run pos pins s σ H _ I (tL.then (k := fun _ => g) h)) fun us s1 ⟨vs, H1, I1, r, m, E, S, ds, re, rs, rv, p⟩ => hc W pins s1 σ H1 m S ds vs us Q I1 rs rv r p) he hpl
end
end Z
namespace Z
open PySem PySem.Spec PyProof.Rows L2

def listOf (S : Sto) (d : D) : Option (List D) := match d with
  | .ref n => (match S[n]? with
    | some (.lst xs) => some xs
    | _ => none)
  | .fl xs => some xs
  | _ => none
/-- lists and tuples -/
def seqOf (S : Sto) (d : D) : Option (List D) := match d with
  | .tup xs => some xs
  | _ => listOf S d
@[simp] theorem listOf_ref (S : Sto) (n : Nat) : listOf S (.ref n) = match S[n]? with | some (.lst xs) => some xs | _ => none := rfl
@[simp] theorem listOf_fl (S : Sto) (xs : List D) : listOf S (.fl xs) = some xs := rfl
@[simp] theorem listOf_tup (S : Sto) (xs : List D) : listOf S (.tup xs) = none := rfl
@[simp] theorem seqOf_tup (S : Sto) (xs : List D) : seqOf S (.tup xs) = some xs := rfl
@[simp] theorem seqOf_ref (S : Sto) (n : Nat) : seqOf S (.ref n) = listOf S (.ref n) := rfl
@[simp] theorem seqOf_fl (S : Sto) (xs : List D) : seqOf S (.fl xs) = some xs := rfl
section
variable {K : PySem.W.Frag} {H : Hp} {m : List Addr} {S : Sto}
theorem list_at {d : D} {v : V} {xs : List D} (rs : RS K H m S) (rv : RV K H m d v) (h : listOf S d = some xs) : ∃ a vs, v = .ref a ∧ SqL K H a vs ∧ RVs K H m xs vs := by
  cases rv with
  | ref h1 =>
    rename_i n a
    cases e : S[n]? with
    | none => simp [e] at h
    | some c =>
      cases c with
      | lst ys =>
        simp [e] at h
        subst h
        obtain ⟨a', vs, e1, h2, h3, h4⟩ := rs.list e (.ref h1)
        cases e1
        exact ⟨_, vs, rfl, SqL.of h3, h4⟩
      | exc c fs => simp [e] at h
      | ins c fs => simp [e] at h
  | fl h1 h2 => simp at h; subst h; exact ⟨_, _, rfl, h1.sq, h2⟩
  | _ => simp [listOf] at h
theorem seq_at {d : D} {v : V} {xs : List D} (rs : RS K H m S) (rv : RV K H m d v) (h : seqOf S d = some xs) : ∃ a vs, v = .ref a ∧ (SqL K H a vs ∨ SqT K H a vs) ∧ RVs K H m xs vs := by
  cases rv with
  | tup h1 h2 => simp at h; subst h; exact ⟨_, _, rfl, .inr h1, h2⟩
  | ref h1 =>
    obtain ⟨a, vs, e, h2, h3⟩ := list_at rs (.ref h1) h
    exact ⟨a, vs, e, .inl h2, h3⟩
  | fl h1 h2 =>
    obtain ⟨a, vs, e, h2, h3⟩ := list_at rs (.fl h1 h2) h
    exact ⟨a, vs, e, .inl h2, h3⟩
  | _ => simp [seqOf, listOf] at h
theorem RVs.ints : ∀ {ns : List Int} {vs : List V}, RVs K H m (ns.map D.int) vs → vs = ns.map V.int
  | [], _, .nil => rfl
  | _ :: _, _, .cons r t => by
    cases r
    rw [RVs.ints t]
    rfl
theorem RVs.of_ints : ∀ (ns : List Int), RVs K H m (ns.map D.int) (ns.map V.int)
  | [] => .nil
  | _ :: t => .cons (.int _) (RVs.of_ints t)
theorem RVs.bls : ∀ {ns : List Bool} {vs : List V}, RVs K H m (ns.map D.bl) vs → vs = ns.map V.bl
  | [], _, .nil => rfl
  | _ :: _, _, .cons r t => by
    cases r
    rw [RVs.bls t]
    rfl
theorem RVs.strs : ∀ {ns : List Str} {vs : List V}, RVs K H m (ns.map D.str) vs → vs = ns.map V.str
  | [], _, .nil => rfl
  | _ :: _, _, .cons r t => by
    cases r
    rw [RVs.strs t]
    rfl
theorem RVs.of_strs : ∀ (ns : List Str), RVs K H m (ns.map D.str) (ns.map V.str)
  | [] => .nil
  | _ :: t => .cons (.str _) (RVs.of_strs t)
end
def intsOf : List D → Option (List Int)
  | [] => some []
  | .int i :: r => (intsOf r).map (i :: ·)
  | _ => none
def blsOf : List D → Option (List Bool)
  | [] => some []
  | .bl i :: r => (blsOf r).map (i :: ·)
  | _ => none
def strsOf : List D → Option (List Str)
  | [] => some []
  | .str i :: r => (strsOf r).map (i :: ·)
  | _ => none
theorem intsOf_eq : ∀ {ds : List D} {ns : List Int}, intsOf ds = some ns → ds = ns.map D.int
  | [], _, h => by simp [intsOf] at h; subst h; rfl
  | d :: r, _, h => by
    cases d with
    | int i =>
      simp only [intsOf, Option.map_eq_some_iff] at h
      obtain ⟨t, h1, rfl⟩ := h
      rw [intsOf_eq h1]
      rfl
    | _ => simp [intsOf] at h
theorem blsOf_eq : ∀ {ds : List D} {ns : List Bool}, blsOf ds = some ns → ds = ns.map D.bl
  | [], _, h => by simp [blsOf] at h; subst h; rfl
  | d :: r, _, h => by
    cases d with
    | bl i =>
      simp only [blsOf, Option.map_eq_some_iff] at h
      obtain ⟨t, h1, rfl⟩ := h
      rw [blsOf_eq h1]
      rfl
    | _ => simp [blsOf] at h
theorem strsOf_eq : ∀ {ds : List D} {ns : List Str}, strsOf ds = some ns → ds = ns.map D.str
  | [], _, h => by simp [strsOf] at h; subst h; rfl
  | d :: r, _, h => by
    cases d with
    | str i =>
      simp only [strsOf, Option.map_eq_some_iff] at h
      obtain ⟨t, h1, rfl⟩ := h
      rw [strsOf_eq h1]
      rfl
    | _ => simp [strsOf] at h
@[simp] theorem intsOf_map (ns : List Int) : intsOf (ns.map D.int) = some ns := by
  induction ns with
  | nil => rfl
  | cons a t ih => simp [intsOf, ih]
@[simp] theorem blsOf_map (ns : List Bool) : blsOf (ns.map D.bl) = some ns := by
  induction ns with
  | nil => rfl
  | cons a t ih => simp [blsOf, ih]
@[simp] theorem strsOf_map (ns : List Str) : strsOf (ns.map D.str) = some ns := by
  induction ns with
  | nil => rfl
  | cons a t ih => simp [strsOf, ih]

/-! ## operators -/
def gAdd (d e : D) (S : Sto) : Res := match d, e with
  | .int i, .int j => .ok (.int (i + j)) S
  | .str x, .str y => if x.length + y.length ≤ sizeLine then .ok (.str (x ++ y)) S else .bad
  | .tup xs, .tup ys => if xs.length + ys.length ≤ 1000 then .ok (.tup (xs ++ ys)) S else .bad
  | .ref a, .ref b => (match S[a]?, S[b]? with
    | some (.lst xs), some (.lst ys) => if xs.length + ys.length ≤ 100000 then .ok (.ref S.length) (S ++ [.lst (xs ++ ys)]) else .bad
    | _, _ => .bad)
  | _, _ => .bad
def gSub (d e : D) (S : Sto) : Res := match d, e with
  | .int i, .int j => .ok (.int (i - j)) S
  | _, _ => .bad
def strRep (x : Str) (n : Int) : Str := if n < 1 then Str.empty else if (n == 1 || x.length == 0) = true then x else ⟨(List.replicate n.toNat x.cps).foldl (· ++ ·) #[]⟩
def gMul (d e : D) (S : Sto) : Res := match d, e with
  | .int i, .int j => if i.natAbs.log2 + j.natAbs.log2 < 1000000 then .ok (.int (i * j)) S else .bad
  | .ref a, .int k => (match S[a]? with
    | some (.lst xs) => if 0 ≤ k ∧ k ≤ 1000 ∧ xs.length ≤ 1000 then .ok (.ref S.length) (S ++ [.lst (List.replicate k.toNat xs).flatten]) else .bad
    | _ => .bad)
  | .str x, .int k => if 0 ≤ k ∧ k ≤ 1000 ∧ x.length ≤ 1000 then .ok (.str (strRep x k)) S else .bad
  | .tup xs, .int k => if 2 ≤ k ∧ k ≤ 1000 ∧ xs.length ≤ 1000 ∧ 0 < xs.length then .ok (.tup (List.replicate k.toNat xs).flatten) S else .bad
  | _, _ => .bad
def gDiv (d e : D) (S : Sto) : Res := match d, e with
  | .int i, .int j => if j ≠ 0 ∧ j.natAbs.log2 < 9000 then .ok (.int (i.fdiv j)) S else .bad
  | _, _ => .bad
def gMod (d e : D) (S : Sto) : Res := match d, e with
  | .int i, .int j => if 0 < j then .ok (.int (i % j)) S else .bad
  | _, _ => .bad
def gPow (d e : D) (S : Sto) : Res := match d, e with
  | .int i, .int j => if 0 ≤ j ∧ j ≤ 1000000 ∧ i.natAbs < 2 ^ 64 then .ok (.int (i ^ j.toNat)) S else .bad
  | _, _ => .bad
def gNeg (d : D) (S : Sto) : Res := match d with
  | .int i => .ok (.int (-i)) S
  | _ => .bad
def gCmpI (p : Int → Int → Bool) (d e : D) (S : Sto) : Res := match d, e with
  | .int i, .int j => .ok (.bl (p i j)) S
  | _, _ => .bad
abbrev gLt := gCmpI fun i j => decide (i < j)
abbrev gLe := gCmpI fun i j => decide (i ≤ j)
abbrev gGt := gCmpI fun i j => decide (j < i)
abbrev gGe := gCmpI fun i j => decide (j ≤ i)
section
variable {X : Cx}
theorem o_add : O2 X (binaryOp .Add) gAdd := by
  intro W pins s σ H m S d e x y v u Q I rs rd re rx ry p
  cases rd with
  | int i =>
    cases re with
    | int j => exact op_add pins s σ H _ _ v u Q I rx ry ⟨i, j, rfl, rfl, p H m _ Le.refl rs (.int _)⟩
    | _ => exact p.elim
  | str i =>
    cases re with
    | str j =>
      have p' : PV X.K W H m σ (if i.length + j.length ≤ sizeLine then .ok (.str (i ++ j)) S else .bad) Q := p
      by_cases hz : i.length + j.length ≤ sizeLine
      · rw [if_pos hz] at p'
        exact op_add_str pins s σ H _ _ v u Q I rx ry ⟨i, j, rfl, rfl, hz, p' H m _ Le.refl rs (.str _)⟩
      · rw [if_neg hz] at p'; exact p'.elim
    | _ => exact p.elim
  | tup h1 h2 =>
    cases re with
    | tup h3 h4 =>
      rename_i a xs vs b ys us
      have p' : PV X.K W H m σ (if xs.length + ys.length ≤ 1000 then .ok (.tup (xs ++ ys)) S else .bad) Q := p
      by_cases hz : xs.length + ys.length ≤ 1000
      · rw [if_pos hz] at p'
        refine op_catA pins s σ H _ _ v u Q I rx ry ⟨a, b, vs, us, rfl, rfl, h1, h3, by rw [← h2.len, ← h4.len]; exact le1000 hz, fun e => ?_, fun _ e => ?_, fun _ _ q hq => ?_⟩
        · subst e
          cases h2
          exact p' H m _ Le.refl rs (.tup h3 h4)
        · subst e
          cases h4
          rw [List.append_nil] at p'
          exact p' H m _ Le.refl rs (.tup h1 h2)
        · have l1 : Le X.K H m (upd H q (.tup (vs ++ us))) m := Le.new hq
          exact p' _ m _ l1 (rs.side hq) (.tup (SqT.of upd_same) ((h2.app h4).up l1))
      · rw [if_neg hz] at p'; exact p'.elim
    | _ => exact p.elim
  | ref h1 =>
    cases re with
    | ref h2 =>
      rename_i n a k b
      unfold gAdd at p
      cases e1 : S[n]? with
      | none => simp [e1] at p; exact p.elim
      | some c =>
        cases c with
        | lst xs =>
          cases e2 : S[k]? with
          | none => simp [e1, e2] at p; exact p.elim
          | some c2 =>
            cases c2 with
            | lst ys =>
              simp only [e1, e2] at p
              by_cases hz : xs.length + ys.length ≤ 100000
              · rw [if_pos hz] at p
                obtain ⟨a', vs, q1, q2, q3, q4⟩ := rs.list e1 (.ref h1)
                obtain ⟨b', us, q5, q6, q7, q8⟩ := rs.list e2 (.ref h2)
                cases q1
                cases q5
                refine op_cat pins s σ H _ _ v u Q I rx ry ⟨_, _, vs, us, rfl, rfl, q3, q7, by rw [← q4.len, ← q8.len]; exact Nat.le_trans hz (by decide), fun q hq => ?_⟩
                obtain ⟨l1, r1⟩ := rs.alloc hq (q4.app q8)
                exact p _ _ _ l1 r1 (.ref (by rw [← rs.len]; simp))
              · rw [if_neg hz] at p; exact p.elim
            | _ => simp [e1, e2] at p; exact p.elim
        | _ => simp [e1] at p; exact p.elim
    | _ => exact p.elim
  | _ => cases re <;> exact p.elim
theorem o_sub : O2 X (binaryOp .Sub) gSub := by
  intro W pins s σ H m S d e x y v u Q I rs rd re rx ry p
  cases rd with
  | int i =>
    cases re with
    | int j => exact op_sub pins s σ H _ _ v u Q I rx ry ⟨i, j, rfl, rfl, p H m _ Le.refl rs (.int _)⟩
    | _ => exact p.elim
  | _ => cases re <;> exact p.elim
theorem RVs.rep {K H m} {ds : List D} {vs : List V} (h : RVs K H m ds vs) : ∀ n : Nat, RVs K H m (List.replicate n ds).flatten (List.replicate n vs).flatten
  | 0 => .nil
  | n + 1 => by
    rw [List.replicate_succ, List.replicate_succ, List.flatten_cons, List.flatten_cons]
    exact h.app (RVs.rep h n)
theorem o_mul : O2 X (binaryOp .Mult) gMul := by
  intro W pins s σ H m S d e x y v u Q I rs rd re rx ry p
  cases rd with
  | int i =>
    cases re with
    | int j =>
      have p' : PV X.K W H m σ (if i.natAbs.log2 + j.natAbs.log2 < 1000000 then .ok (.int (i * j)) S else .bad) Q := p
      by_cases hz : i.natAbs.log2 + j.natAbs.log2 < 1000000
      · rw [if_pos hz] at p'
        exact op_mulW pins s σ H _ _ v u Q I rx ry ⟨i, j, rfl, rfl, hz, p' H m _ Le.refl rs (.int _)⟩
      · rw [if_neg hz] at p'; exact p'.elim
    | _ => exact p.elim
  | ref h1 =>
    cases re with
    | int k =>
      rename_i n a
      unfold gMul at p
      cases e1 : S[n]? with
      | none => simp [e1] at p; exact p.elim
      | some c =>
        cases c with
        | lst xs =>
          simp only [e1] at p
          by_cases hz : 0 ≤ k ∧ k ≤ 1000 ∧ xs.length ≤ 1000
          · rw [if_pos hz] at p
            obtain ⟨z1, z2, z3⟩ := hz
            obtain ⟨a', vs, q1, q2, q3, q4⟩ := rs.list e1 (.ref h1)
            cases q1
            have hk : k.toNat ≤ 1000 := by omega
            have hl : vs.length * k.toNat ≤ sizeLine := by
              rw [← q4.len]
              exact Nat.le_trans (Nat.mul_le_mul z3 hk) (by decide)
            refine op_rep pins s σ H _ _ v u Q I rx ry ⟨_, k, vs, rfl, rfl, q3, by omega, by omega, hl, fun q hq => ?_⟩
            obtain ⟨l1, r1⟩ := rs.alloc hq (q4.rep k.toNat)
            exact p _ _ _ l1 r1 (.ref (by rw [← rs.len]; simp))
          · rw [if_neg hz] at p; exact p.elim
        | _ => simp [e1] at p; exact p.elim
    | _ => exact p.elim
  | tup h1 h2 =>
    cases re with
    | int k =>
      rename_i a xs vs
      have p' : PV X.K W H m σ (if 2 ≤ k ∧ k ≤ 1000 ∧ xs.length ≤ 1000 ∧ 0 < xs.length then .ok (.tup (List.replicate k.toNat xs).flatten) S else .bad) Q := p
      by_cases hz : 2 ≤ k ∧ k ≤ 1000 ∧ xs.length ≤ 1000 ∧ 0 < xs.length
      · rw [if_pos hz] at p'
        obtain ⟨z1, z2, z3, z4⟩ := hz
        have ln := h2.len
        refine op_repT pins s σ H _ _ v u Q I rx ry ⟨a, k, vs, rfl, rfl, h1, fun e => ?_, z1, z2, by rw [← ln]; exact z3, fun q hq => ?_⟩
        · subst e
          rw [ln] at z4
          exact absurd z4 (Nat.lt_irrefl _)
        · have l1 : Le X.K H m (upd H q (.tup (List.replicate k.toNat vs).flatten)) m := Le.new hq
          exact p' _ m _ l1 (rs.side hq) (.tup (SqT.of upd_same) ((h2.rep k.toNat).up l1))
      · rw [if_neg hz] at p'; exact p'.elim
    | _ => exact p.elim
  | str x =>
    cases re with
    | int k =>
      have p' : PV X.K W H m σ (if 0 ≤ k ∧ k ≤ 1000 ∧ x.length ≤ 1000 then .ok (.str (strRep x k)) S else .bad) Q := p
      by_cases hz : 0 ≤ k ∧ k ≤ 1000 ∧ x.length ≤ 1000
      · rw [if_pos hz] at p'
        obtain ⟨z1, z2, z3⟩ := hz
        obtain ⟨t, rfl⟩ := rx
        obtain ⟨t', rfl⟩ := ry
        have q := p' H m _ Le.refl rs (.str _)
        have hk : k.toNat ≤ 1000 := by omega
        have hl : x.length * k.toNat ≤ 1000 * 1000 := Nat.mul_le_mul z3 hk
        have tl : Builtin.Str.tooLong (x.length * k.toNat) = false := by
          have h2 : x.length * k.toNat ≤ sizeLine := Nat.le_trans hl (by decide)
          unfold Builtin.Str.tooLong
          simpa using h2
        refine PySem.P.mul_str (by
          have h1 : ¬ k < -(2 ^ 63 : Int) := by omega
          have h2 : ¬ k ≥ (2 ^ 63 : Int) := by omega
          rw [decide_eq_false h1, decide_eq_false h2]; rfl) (fun h1 _ h3 => ?_) (fun _ _ => tl) ?_
        · have h4 : ((2 ^ 63 - 1 : Int) / k) ≥ (2 ^ 63 - 1 : Int) / 1000 := by
            have : (2 ^ 63 - 1 : Int) / 1000 * k ≤ 2 ^ 63 - 1 := by
              have : (2 ^ 63 - 1 : Int) / 1000 * k ≤ (2 ^ 63 - 1 : Int) / 1000 * 1000 := Int.mul_le_mul_of_nonneg_left z2 (by decide)
              exact Int.le_trans this (by decide)
            exact (Int.le_ediv_iff_mul_le (by omega)).mpr this
          have h5 : ((2 ^ 63 - 1 : Int) / 1000) ≥ 1000 := by decide
          omega
        · unfold strRep at q
          split
          · rename_i h; rw [if_pos h] at q; exact ⟨by decide, ⟨.str _, H, I.tok _, ⟨_, rfl⟩, q⟩⟩
          · rename_i h
            rw [if_neg h] at q
            split
            · rename_i h2; rw [if_pos h2] at q; exact ⟨.str _, H, I, ⟨_, rfl⟩, q⟩
            · rename_i h2
              rw [if_neg h2] at q
              exact ⟨by
                have e : (⟨(List.replicate k.toNat x.cps).foldl (· ++ ·) #[]⟩ : Str).length = x.length * k.toNat := by
                  show ((List.replicate k.toNat x.cps).foldl (· ++ ·) #[]).size = _
                  have gen : ∀ (n : Nat) (acc : Array Nat), ((List.replicate n x.cps).foldl (· ++ ·) acc).size = acc.size + x.cps.size * n := by
                    intro n
                    induction n with
                    | zero => intro acc; simp
                    | succ n ih =>
                      intro acc
                      rw [List.replicate_succ, List.foldl_cons, ih, Array.size_append, Nat.mul_succ]
                      omega
                  rw [gen]
                  simp
                  rfl
                first
                  | (rw [e]; exact tl)
                  | (rw [e]; exact Nat.le_trans hl (by decide)), ⟨.str _, H, I.tok _, ⟨_, rfl⟩, q⟩⟩
      · rw [if_neg hz] at p'; exact p'.elim
    | _ => exact p.elim
  | _ => cases re <;> exact p.elim
theorem op_quo : OpR X (binaryOp .FloorDiv) (rI (fun _ j => j ≠ 0 ∧ j.natAbs.log2 < 9000) fun i j => .int (i.fdiv j)) := opI fun _ _ _ _ _ _ _ hc q => floordiv_int hc.1 q (.inl (PyProof.noPylong_of_log2 hc.2))
theorem o_div : O2 X (binaryOp .FloorDiv) gDiv := by
  intro W pins s σ H m S d e x y v u Q I rs rd re rx ry p
  cases rd with
  | int i =>
    cases re with
    | int j =>
      have p' : PV X.K W H m σ (if j ≠ 0 ∧ j.natAbs.log2 < 9000 then .ok (.int (i.fdiv j)) S else .bad) Q := p
      by_cases hz : j ≠ 0 ∧ j.natAbs.log2 < 9000
      · rw [if_pos hz] at p'
        exact op_quo pins s σ H _ _ v u Q I rx ry ⟨i, j, rfl, rfl, hz, p' H m _ Le.refl rs (.int _)⟩
      · rw [if_neg hz] at p'; exact p'.elim
    | _ => exact p.elim
  | _ => cases re <;> exact p.elim
theorem o_mod : O2 X (binaryOp .Mod) gMod := by
  intro W pins s σ H m S d e x y v u Q I rs rd re rx ry p
  cases rd with
  | int i =>
    cases re with
    | int j =>
      have p' : PV X.K W H m σ (if 0 < j then .ok (.int (i % j)) S else .bad) Q := p
      by_cases hz : 0 < j
      · rw [if_pos hz] at p'
        exact op_mod pins s σ H _ _ v u Q I rx ry ⟨i, j, rfl, rfl, hz, p' H m _ Le.refl rs (.int _)⟩
      · rw [if_neg hz] at p'; exact p'.elim
    | _ => exact p.elim
  | _ => cases re <;> exact p.elim
theorem o_pow : O2 X (binaryOp .Pow) gPow := by
  intro W pins s σ H m S d e x y v u Q I rs rd re rx ry p
  cases rd with
  | int i =>
    cases re with
    | int j =>
      have p' : PV X.K W H m σ (if 0 ≤ j ∧ j ≤ 1000000 ∧ i.natAbs < 2 ^ 64 then .ok (.int (i ^ j.toNat)) S else .bad) Q := p
      by_cases hz : 0 ≤ j ∧ j ≤ 1000000 ∧ i.natAbs < 2 ^ 64
      · rw [if_pos hz] at p'
        exact op_pow pins s σ H _ _ v u Q I rx ry ⟨i, j, rfl, rfl, hz, p' H m _ Le.refl rs (.int _)⟩
      · rw [if_neg hz] at p'; exact p'.elim
    | _ => exact p.elim
  | _ => cases re <;> exact p.elim
theorem o_neg : O1 X (unaryOp .USub) gNeg := by
  intro W pins s σ H m S d x v Q I rs rd rx p
  cases rd with
  | int i => exact un_neg pins s σ H _ v Q I rx ⟨i, rfl, p H m _ Le.refl rs (.int _)⟩
  | _ => exact p.elim
theorem o_cmpI {f : Value → Value → Sem Value} {g : Int → Int → Bool} (h : OpR X f (rI0 fun i j => .bl (g i j))) : O2 X f (gCmpI g) := by
  intro W pins s σ H m S d e x y v u Q I rs rd re rx ry p
  cases rd with
  | int i =>
    cases re with
    | int j => exact h pins s σ H _ _ v u Q I rx ry ⟨i, j, rfl, rfl, p H m _ Le.refl rs (.bl _)⟩
    | _ => exact p.elim
  | _ => cases re <;> exact p.elim
theorem o_lt : O2 X (compareOp .Lt) gLt := o_cmpI op_lt
theorem o_le : O2 X (compareOp .LtE) gLe := o_cmpI op_le
theorem o_gt : O2 X (compareOp .Gt) gGt := o_cmpI op_gt
theorem o_ge : O2 X (compareOp .GtE) gGe := o_cmpI op_ge
end

/-! ## data as a whole: ==, repr -/
def optAll {α β : Type} (f : α → Option β) : List α → Option (List β)
  | [] => some []
  | d :: ds => match f d, optAll f ds with
    | some p, some ps => some (p :: ps)
    | _, _ => none
def toPD (S : Sto) : Nat → D → Option PyData
  | 0, _ => none
  | k + 1, d => match d with
    | .non => some .none
    | .bl b => some (.bool b)
    | .int i => some (.int i)
    | .str x => some (.str x)
    | .tup xs => (optAll (toPD S k) xs).map .tuple
    | .fl xs => (optAll (toPD S k) xs).map .list
    | .ref n => (match S[n]? with
      | some (.lst xs) => (optAll (toPD S k) xs).map .list
      | _ => none)
    | .emp => some (.dict [])
section
variable {K : PySem.W.Frag} {H : Hp} {m : List Addr} {S : Sto}
end
mutual
/-- no list in it -/
def noList : PyData → Bool
  | .list _ => false
  | .tuple xs => noListAll xs
  | _ => true
def noListAll : List PyData → Bool
  | [] => true
  | x :: xs => noList x && noListAll xs
end
section
variable {X : Cx} {pins : List (Addr × Obj)} {σ : L2.St} {H : Hp} {s : Shared} {m : List Addr} {S : Sto}
theorem readsAll_of {h : Heap} {k : Nat} (ih : ∀ {d : D} {v : V} {u : Value} {p : PyData}, RV X.K H m d v → RelV v u → toPD S k d = some p → ∃ as, Reads h u p as ∧ (noList p = true → sysModules ∉ as)) :
    ∀ {ds : List D} {vs : List V} {us : List Value} {ps : List PyData}, RVs X.K H m ds vs → Vals vs us → optAll (toPD S k) ds = some ps → ∃ as, ReadsAll h us ps as ∧ (noListAll ps = true → sysModules ∉ as)
  | _, _, _, _, .nil, .nil, h => by
    simp [optAll] at h
    subst h
    exact ⟨_, .nil, fun _ => by simp⟩
  | d :: ds, _, _, _, .cons r t, .cons ru tu, h => by
    unfold optAll at h
    cases e1 : toPD S k d with
    | none => simp [e1] at h
    | some p =>
      cases e2 : optAll (toPD S k) ds with
      | none => simp [e1, e2] at h
      | some ps =>
        simp [e1, e2] at h
        subst h
        obtain ⟨as, h1, h2⟩ := ih r ru e1
        obtain ⟨bs, h3, h4⟩ := readsAll_of ih t tu e2
        refine ⟨_, .cons h1 h3, fun hd => ?_⟩
        simp only [noListAll, Bool.and_eq_true] at hd
        simp only [List.mem_append, not_or]
        exact ⟨h2 hd.1, h4 hd.2⟩
theorem reads_of (I : Inv X pins σ H s) (rs : RS X.K H m S) : ∀ {k : Nat} {d : D} {v : V} {u : Value} {p : PyData}, RV X.K H m d v → RelV v u → toPD S k d = some p → ∃ as, Reads s.heap u p as ∧ (noList p = true → sysModules ∉ as)
  | 0, _, _, _, _, _, _, h => by simp [toPD] at h
  | k + 1, d, v, u, p, r, ru, h => by
    have lcase : ∀ {a : Addr} {vs : List V} {xs : List D} {ps : List PyData}, u = .ref a → SqL X.K H a vs → RVs X.K H m xs vs → optAll (toPD S k) xs = some ps → ∃ as, Reads s.heap u (.list ps) as ∧ (noList (.list ps) = true → sysModules ∉ as) := by
      intro a vs xs ps eu h1 h2 h3
      subst eu
      obtain ⟨its, rv, ⟨o, n, ho, hc, _, hd⟩, _⟩ := I.list h1
      obtain ⟨as, q1, q2⟩ := readsAll_of (fun r ru e => reads_of I rs r ru e) h2 rv h3
      exact ⟨_, .list ho hc hd q1, fun z => by simp [noList] at z⟩
    cases r with
    | non => simp [toPD] at h; subst h; cases ru; exact ⟨_, .none, fun _ => by simp⟩
    | bl b => simp [toPD] at h; subst h; cases ru; exact ⟨_, .bool b, fun _ => by simp⟩
    | int b => simp [toPD] at h; subst h; obtain ⟨t, rfl⟩ := ru; exact ⟨_, .int b t, fun _ => by simp⟩
    | str b => simp [toPD] at h; subst h; obtain ⟨t, rfl⟩ := ru; exact ⟨_, .str b t, fun _ => by simp⟩
    | tup h1 h2 =>
      simp only [toPD, Option.map_eq_some_iff] at h
      obtain ⟨ps, h3, rfl⟩ := h
      cases ru
      obtain ⟨its, rv, ⟨o, ho, hc, n, hd⟩, _⟩ := I.tuple h1
      obtain ⟨as, q1, q2⟩ := readsAll_of (fun r ru e => reads_of I rs r ru e) h2 rv h3
      exact ⟨_, .tuple ho hc hd q1, fun z => q2 (by simpa [noList] using z)⟩
    | fl h1 h2 =>
      simp only [toPD, Option.map_eq_some_iff] at h
      obtain ⟨ps, h3, rfl⟩ := h
      exact lcase ru h1.sq h2 h3
    | emp h1 =>
      simp [toPD] at h
      subst h
      cases ru
      obtain ⟨_, hs, vs, kv, o, es, ep, ho, hx, hd, hk, hp, _⟩ := I.hok _ _ h1
      cases kv
      have he : es.toList = [] := by
        generalize es.toList = l at hp
        cases hp
        rfl
      refine ⟨_, .dict (kvs := []) ho hx.1 hd (by rw [he]; exact .nil) (by rw [he]; exact .nil), fun _ => ?_⟩
      simp only [List.append_nil, List.mem_singleton]
      intro z
      rw [← z] at hs
      simp at hs
    | ref h1 =>
      rename_i n a
      cases e : S[n]? with
      | none => simp [toPD, e] at h
      | some c =>
        cases c with
        | lst xs =>
          simp only [toPD, e, Option.map_eq_some_iff] at h
          obtain ⟨ps, h3, rfl⟩ := h
          obtain ⟨a', vs, e1, q2, q3, q4⟩ := rs.list e (.ref h1)
          cases e1
          exact lcase ru (SqL.of q3) q4 h3
        | _ => simp [toPD, e] at h
end
def gEqD (d e : D) (S : Sto) : Res := match toPD S 60 d, toPD S 60 e with
  | some p, some q => if SeqAt.shaped p && SeqAt.shaped q then .ok (.bl (PyData.eqv p q)) S else .bad
  | _, _ => .bad
def gNeD (d e : D) (S : Sto) : Res := match toPD S 60 d, toPD S 60 e with
  | some p, some q => if SeqAt.shaped p && SeqAt.shaped q then .ok (.bl (!PyData.eqv p q)) S else .bad
  | _, _ => .bad
/-- two texts by themselves, all else by its data -/
def gEq (d e : D) (S : Sto) : Res := match d, e with
  | .str x, .str y => .ok (.bl (x == y)) S
  | _, _ => gEqD d e S
def gNe (d e : D) (S : Sto) : Res := match d, e with
  | .str x, .str y => .ok (.bl (!(x == y))) S
  | _, _ => gNeD d e S
section
variable {X : Cx}
theorem o_eqD (hu : X.A.units + 64 < cLine) : O2 X (compareOp .Eq) gEqD := by
  intro W pins s σ H m S d e x y v u Q I rs rd re rx ry p
  unfold gEqD at p
  cases e1 : toPD S 60 d with
  | none => simp [e1] at p; exact p.elim
  | some a =>
    cases e2 : toPD S 60 e with
    | none => simp [e1, e2] at p; exact p.elim
    | some b =>
      simp only [e1, e2] at p
      by_cases hz : (SeqAt.shaped a && SeqAt.shaped b) = true
      · rw [if_pos hz] at p
        obtain ⟨z1, z2⟩ := Bool.and_eq_true_iff.mp hz
        obtain ⟨as, r1, _⟩ := reads_of I rs rd rx e1
        obtain ⟨bs, r2, _⟩ := reads_of I rs re ry e2
        exact SeqAt.compareEq_shaped r1 r2 z1 z2 hu ⟨.bl _, H, I, rfl, p H m _ Le.refl rs (.bl _)⟩
      · rw [if_neg hz] at p; exact p.elim
theorem o_neD (hu : X.A.units + 64 < cLine) : O2 X (compareOp .NotEq) gNeD := by
  intro W pins s σ H m S d e x y v u Q I rs rd re rx ry p
  unfold gNeD at p
  cases e1 : toPD S 60 d with
  | none => simp [e1] at p; exact p.elim
  | some a =>
    cases e2 : toPD S 60 e with
    | none => simp [e1, e2] at p; exact p.elim
    | some b =>
      simp only [e1, e2] at p
      by_cases hz : (SeqAt.shaped a && SeqAt.shaped b) = true
      · rw [if_pos hz] at p
        obtain ⟨z1, z2⟩ := Bool.and_eq_true_iff.mp hz
        obtain ⟨as, r1, _⟩ := reads_of I rs rd rx e1
        obtain ⟨bs, r2, _⟩ := reads_of I rs re ry e2
        exact SeqAt.compareNe_shaped r1 r2 z1 z2 hu ⟨.bl _, H, I, rfl, p H m _ Le.refl rs (.bl _)⟩
      · rw [if_neg hz] at p; exact p.elim
theorem o_eq (hu : X.A.units + 64 < cLine) : O2 X (compareOp .Eq) gEq := by
  intro W pins s σ H m S d e x y v u Q I rs rd re rx ry p
  have other : gEq d e S = gEqD d e S → _ := fun h => o_eqD hu W pins s σ H m S d e x y v u Q I rs rd re rx ry (h ▸ p)
  cases rd with
  | str z =>
    cases re with
    | str z2 =>
      have e : (z == z2) = decide (V.str z = V.str z2) := by
        rw [Bool.eq_iff_iff]
        simp
      exact op_eq pins s σ H _ _ v u Q I rx ry ⟨rfl, e ▸ p H m _ Le.refl rs (.bl _)⟩
    | _ => exact other rfl
  | _ => exact other rfl
theorem o_ne (hu : X.A.units + 64 < cLine) : O2 X (compareOp .NotEq) gNe := by
  intro W pins s σ H m S d e x y v u Q I rs rd re rx ry p
  have other : gNe d e S = gNeD d e S → _ := fun h => o_neD hu W pins s σ H m S d e x y v u Q I rs rd re rx ry (h ▸ p)
  cases rd with
  | str z =>
    cases re with
    | str z2 =>
      have e : (z == z2) = decide (V.str z = V.str z2) := by
        rw [Bool.eq_iff_iff]
        simp
      exact op_ne pins s σ H _ _ v u Q I rx ry ⟨rfl, e ▸ p H m _ Le.refl rs (.bl _)⟩
    | _ => exact other rfl
  | _ => exact other rfl
end
end Z
namespace Z
open PySem PySem.Spec PyProof.Rows L2
open Builtin.Str (occurrences)

/-! ## in, is None -/
def eqF : D → D → Option Bool
  | .non, .non => some true
  | .bl a, .bl b => some (a == b)
  | .bl a, .int b => some ((if a then 1 else 0) == b)
  | .int a, .bl b => some (a == (if b then 1 else 0))
  | .int a, .int b => some (a == b)
  | .str a, .str b => some (a == b)
  | .non, .bl _ | .non, .int _ | .non, .str _ | .bl _, .non | .int _, .non | .str _, .non => some false
  | .bl _, .str _ | .int _, .str _ | .str _, .bl _ | .str _, .int _ => some false
  | _, _ => none
def anyF (x : D) : List D → Option Bool
  | [] => some false
  | y :: r => match eqF y x, anyF x r with
    | some a, some b => some (a || b)
    | _, _ => none
def gIn (neg : Bool) (d e : D) (S : Sto) : Res := match e with
  | .str z => (match d with
    | .str w => (match w.cps.toList with
      | [c] => .ok (.bl (if neg then !decide (c ∈ z.cps.toList) else decide (c ∈ z.cps.toList))) S
      | _ => .bad)
    | _ => .bad)
  | _ => (match seqOf S e with
    | some ys => (match eqF d d, anyF d ys with
      | some _, some b => .ok (.bl (if neg then !b else b)) S
      | _, _ => .bad)
    | none => .bad)
def gIsN (neg : Bool) (d e : D) (S : Sto) : Res := match e with
  | .non => .ok (.bl (match d with | .non => !neg | _ => neg)) S
  | _ => .bad
section
variable {K : PySem.W.Frag} {H : Hp} {m : List Addr} {S : Sto}
theorem eqF_flat {x y : D} {v u : V} {b : Bool} (rx : RV K H m x v) (ry : RV K H m y u) (h : eqF y x = some b) : flatV v = true ∧ flatV u = true ∧ eqV u v = b := by
  cases ry <;> cases rx <;> first
    | (simp [eqF] at h; done)
    | (simp only [eqF, Option.some.injEq] at h; subst h; exact ⟨rfl, rfl, rfl⟩)
    | (simp only [eqF, Option.some.injEq] at h; subst h; exact ⟨rfl, rfl, by simp [eqV]⟩)
theorem anyF_flat {x : D} {v : V} (rx : RV K H m x v) : ∀ {ys : List D} {us : List V} {b : Bool}, RVs K H m ys us → anyF x ys = some b → us.all flatV = true ∧ inV v us = b
  | _, _, _, .nil, h => by simp [anyF] at h; subst h; exact ⟨rfl, rfl⟩
  | y :: ys, _, b, .cons r t, h => by
    unfold anyF at h
    cases e1 : eqF y x with
    | none => simp [e1] at h
    | some a =>
      cases e2 : anyF x ys with
      | none => simp [e1, e2] at h
      | some c =>
        simp only [e1, e2, Option.some.injEq] at h
        obtain ⟨_, h2, h3⟩ := eqF_flat rx r e1
        obtain ⟨h4, h5⟩ := anyF_flat rx t e2
        refine ⟨by rw [List.all_cons, h2, h4]; rfl, ?_⟩
        unfold inV at h5 ⊢
        rw [List.any_cons, h3, h5]
        exact h
end
section
variable {X : Cx}
theorem o_inG {op : CmpOp} {neg : Bool} (h1 : OpR X (compareOp op) (rIn X.K neg)) (h2 : OpR X (compareOp op) (fun x y H Q => ∃ (c : Nat) (z : Str), x = .str ⟨#[c]⟩ ∧ y = .str z ∧ Q (.bl (if neg then !decide (c ∈ z.cps.toList) else decide (c ∈ z.cps.toList))) H)) : O2 X (compareOp op) (gIn neg) := by
  intro W pins s σ H m S d e x y v u Q I rs rd re rx ry p
  have seqCase : ∀ ys, seqOf S e = some ys → PV X.K W H m σ (match eqF d d, anyF d ys with | some _, some b => .ok (.bl (if neg then !b else b)) S | _, _ => .bad) Q → wpAny (model X.prog X.w) X.A (compareOp op v u) (EP X pins σ Q) X.xe s := by
    intro ys e1 p
    obtain ⟨a, vs, rfl, hs, hv⟩ := seq_at rs re e1
    cases e2 : eqF d d with
    | none => simp [e2] at p; exact p.elim
    | some b0 =>
      cases e3 : anyF d ys with
      | none => simp [e2, e3] at p; exact p.elim
      | some b =>
        simp only [e2, e3] at p
        obtain ⟨f1, _, _⟩ := eqF_flat rd rd e2
        obtain ⟨f2, f3⟩ := anyF_flat rd hv e3
        refine h1 pins s σ H _ _ v u Q I rx ry ⟨a, vs, rfl, hs, f1, f2, ?_⟩
        rw [f3]
        exact p H m _ Le.refl rs (.bl _)
  cases re with
  | str z =>
    cases rd with
    | str w =>
      obtain ⟨⟨l⟩⟩ := w
      cases l with
      | nil => exact p.elim
      | cons c r =>
        cases r with
        | nil => exact h2 pins s σ H _ _ v u Q I rx ry ⟨c, z, rfl, rfl, p H m _ Le.refl rs (.bl _)⟩
        | cons c2 r2 => exact p.elim
    | _ => exact p.elim
  | tup h3 h4 => exact seqCase _ rfl p
  | fl h3 h4 => exact seqCase _ rfl p
  | ref h3 =>
    rename_i n a
    cases e1 : seqOf S (.ref n) with
    | none =>
      have p' : PV X.K W H m σ (match seqOf S (.ref n) with | some ys => (match eqF d d, anyF d ys with | some _, some b => .ok (.bl (if neg then !b else b)) S | _, _ => .bad) | none => .bad) Q := p
      rw [e1] at p'
      exact p'.elim
    | some ys =>
      have p' : PV X.K W H m σ (match seqOf S (.ref n) with | some ys => (match eqF d d, anyF d ys with | some _, some b => .ok (.bl (if neg then !b else b)) S | _, _ => .bad) | none => .bad) Q := p
      rw [e1] at p'
      exact seqCase ys e1 p'
  | _ => exact p.elim
theorem o_in : O2 X (compareOp .In) (gIn false) := o_inG op_in_seq op_in_sign
theorem o_notin : O2 X (compareOp .NotIn) (gIn true) := o_inG op_notIn_seq op_notIn_sign
theorem o_is : O2 X (compareOp .Is) (gIsN false) := by
  intro W pins s σ H m S d e x y v u Q I rs rd re rx ry p
  cases re with
  | non =>
    refine op_isN pins s σ H _ _ v u Q I rx ry ⟨rfl, ?_⟩
    cases rd <;> exact p H m _ Le.refl rs (.bl _)
  | _ => exact p.elim
theorem o_isnot : O2 X (compareOp .IsNot) (gIsN true) := by
  intro W pins s σ H m S d e x y v u Q I rs rd re rx ry p
  cases re with
  | non =>
    refine op_notN pins s σ H _ _ v u Q I rx ry ⟨rfl, ?_⟩
    cases rd <;> exact p H m _ Le.refl rs (.bl _)
  | _ => exact p.elim
end

/-! ## items and slices -/
theorem RVs.atI {K H m} {ds : List D} {vs : List V} {i : Int} {d : D} (h : RVs K H m ds vs) (e : L2.atI ds i = some d) : ∃ v, L2.atI vs i = some v ∧ RV K H m d v := by
  unfold L2.atI at e ⊢
  rw [← h.len]
  cases q : ixN ds.length i with
  | none => rw [q] at e; cases e
  | some j =>
    rw [q] at e
    exact h.at e
def gIx (d e : D) (S : Sto) : Res := match e with
  | .int i => (match d with
    | .str z => if z.length ≤ sizeLine then (match L2.atI z.cps.toList i with
      | some c => .ok (.str ⟨#[c]⟩) S
      | none => .bad) else .bad
    | _ => (match seqOf S d with
      | some xs => (match L2.atI xs i with
        | some y => .ok y S
        | none => .bad)
      | none => .bad))
  | _ => .bad
def cutL {α : Type} (xs : List α) (lo hi : Option Int) : List α := (xs.drop (HT.sIx xs.length 0 lo)).take (HT.sIx xs.length xs.length hi - HT.sIx xs.length 0 lo)
theorem cutL_V (xs : List V) (lo hi : Option Int) : cutL xs lo hi = cutV xs lo hi := rfl
theorem RVs.cut {K H m} {ds : List D} {vs : List V} (h : RVs K H m ds vs) (lo hi : Option Int) : RVs K H m (cutL ds lo hi) (cutV vs lo hi) := by
  unfold cutL cutV
  rw [h.len]
  exact (h.drop _).take _
def vInt (f : FE) : FE := fun E S => (f E S).bind fun d S1 => match d with
  | .int _ => .ok d S1
  | _ => .bad
def oPart : D → Option (Option Int)
  | .non => some none
  | .int i => some (some i)
  | _ => none
def gSl (d : D) (lo hi : Option Int) (S : Sto) : Res := match d with
  | .str z => if z.length ≤ sizeLine then .ok (.str (cutS z lo hi)) S else .bad
  | .tup xs => .ok (.tup (cutL xs lo hi)) S
  | _ => (match listOf S d with
    | some xs => .ok (.ref S.length) (S ++ [.lst (cutL xs lo hi)])
    | none => .bad)
/-- parts are given as None or numbers -/
def vSl (f lo hi : FE) : FE := fun E S => (f E S).bind fun x S1 => (lo E S1).bind fun a S2 => match oPart a with
  | none => .bad
  | some i => (hi E S2).bind fun b S3 => match oPart b with
    | none => .bad
    | some j => gSl x i j S3
def tO (K : PySem.W.Frag) (W : WX) (f : FE) : TO := fun σ H Q => tE K W f σ H fun v H1 => match v with
  | .non => Q none H1
  | .int i => Q (some i) H1
  | _ => False
section
variable {X : Cx} {W : WX} {pos p2 : Pos}
theorem o_ix : IxR X (fun x y H Q => ∃ W pins s σ m S d e, Inv X pins σ H s ∧ RS X.K H m S ∧ RV X.K H m d x ∧ RV X.K H m e y ∧ PV X.K W H m σ (gIx d e S) Q) := by
  intro value slice pins s σ H x y v u Q I rx ry ⟨W, pins', s', σ', m, S, d, e, I', rs, rd, re, p⟩ hs
  have seqCase : ∀ i xs, y = .int i → seqOf S d = some xs → PV X.K W H m σ' (match L2.atI xs i with | some y => .ok y S | none => .bad) Q → wpAny (model X.prog X.w) X.A (subscriptTail value slice v u) (EP X pins σ Q) X.xe s := by
    intro i xs ey e1 p
    subst ey
    obtain ⟨a, vs, rfl, hs', hv⟩ := seq_at rs rd e1
    cases e2 : L2.atI xs i with
    | none => rw [e2] at p; exact p.elim
    | some z =>
      rw [e2] at p
      obtain ⟨w', h1, h2⟩ := hv.atI e2
      rcases hs' with hs' | hs'
      · exact ix_list value slice pins s σ H _ _ v u Q I rx ry ⟨a, vs, i, w', rfl, rfl, hs', h1, p H m _ Le.refl rs h2⟩ hs
      · exact ix_tup value slice pins s σ H _ _ v u Q I rx ry ⟨a, vs, i, w', rfl, rfl, hs', h1, p H m _ Le.refl rs h2⟩ hs
  cases re with
  | int i =>
    cases rd with
    | str z =>
      have p' : PV X.K W H m σ' (if z.length ≤ sizeLine then (match L2.atI z.cps.toList i with | some c => .ok (.str ⟨#[c]⟩) S | none => .bad) else .bad) Q := p
      by_cases hz : z.length ≤ sizeLine
      · rw [if_pos hz] at p'
        cases e2 : L2.atI z.cps.toList i with
        | none => rw [e2] at p'; exact p'.elim
        | some c =>
          rw [e2] at p'
          exact ix_str value slice pins s σ H _ _ v u Q I rx ry ⟨z, i, c, rfl, rfl, hz, e2, p' H m _ Le.refl rs (.str _)⟩ hs
      · rw [if_neg hz] at p'; exact p'.elim
    | tup h1 h2 => exact seqCase i _ rfl rfl p
    | fl h1 h2 => exact seqCase i _ rfl rfl p
    | ref h1 =>
      rename_i n a
      have p' : PV X.K W H m σ' (match seqOf S (.ref n) with | some xs => (match L2.atI xs i with | some y => .ok y S | none => .bad) | none => .bad) Q := p
      cases e1 : seqOf S (.ref n) with
      | none => rw [e1] at p'; exact p'.elim
      | some xs => rw [e1] at p'; exact seqCase i xs rfl e1 p'
    | _ => exact p.elim
  | _ => exact p.elim
theorem e_ix {a b : Expr} {f1 f2 : FE} (ha : PE X a (tE X.K W f1)) (hb : PE X b (tE X.K W f2)) (hs : PlainIx b) : PE X (.Subscript a b pos) (tE X.K W (vBin gIx f1 f2)) := by
  refine ⟨fun pins s σ H Q I h => ?_⟩
  refine Subscript_ (binT ha hb I (tE.two h) (f := fun v u => subscriptTail a b v u) fun v u s2 x y H2 I2 rx ry ⟨m, S, d, e, rs, rd, re, p⟩ => ?_)
  exact o_ix a b pins s2 σ H2 x y v u Q I2 rx ry ⟨W, pins, s2, σ, m, S, d, e, I2, rs, rd, re, p⟩ (hs v u)
theorem p_none : PO X none (tO X.K W (vC .non)) := ⟨fun pins s σ H Q I ⟨m, E, S, re, rs, p⟩ => po_none.run pins s σ H Q I (p H m _ Le.refl rs .non)⟩
theorem p_some {e : Expr} {f : FE} (he : PE X e (tE X.K W f)) : PO X (some e) (tO X.K W (vInt f)) := by
  refine ⟨fun pins s σ H Q I h => (po_some he).run pins s σ H Q I ?_⟩
  refine (tE.then (k := fun _ d S1 => match d with | .int _ => .ok d S1 | _ => .bad) h).mono fun v H1 ⟨m, E, S, d, re, rs, rv, p⟩ => ?_
  cases rv with
  | int i => exact ⟨i, rfl, p H1 m _ Le.refl rs (.int i)⟩
  | _ => exact p.elim
theorem sl_all : SlR X (fun x lo hi H Q => ∃ W σ m S d, RS X.K H m S ∧ RV X.K H m d x ∧ PV X.K W H m σ (gSl d lo hi S) Q) := by
  intro pins s σ H x v vl vu lo hi sl Q I rx hs pl pu ⟨W, σ', m, S, d, rs, rd, p⟩
  have listCase : ∀ xs, listOf S d = some xs → PV X.K W H m σ' (.ok (.ref S.length) (S ++ [.lst (cutL xs lo hi)])) Q → ∃ T id, typeLookup (.type T) "__getitem__" = pure (some (.builtin id)) ∧ s.TypeIs v T ∧ wpAny (model X.prog X.w) X.A (getItem v (.ref sl)) (EP X pins σ Q) X.xe s := by
    intro xs e1 p
    obtain ⟨a, vs, rfl, h1, h2⟩ := list_at rs rd e1
    refine sl_list pins s σ H _ v vl vu lo hi sl Q I rx hs pl pu ⟨a, vs, rfl, h1, fun q hq => ?_⟩
    obtain ⟨l1, r1⟩ := rs.alloc hq (h2.cut lo hi)
    exact p _ _ _ l1 r1 (.ref (by rw [← rs.len]; simp))
  cases rd with
  | str z =>
    have p' : PV X.K W H m σ' (if z.length ≤ sizeLine then .ok (.str (cutS z lo hi)) S else .bad) Q := p
    by_cases hz : z.length ≤ sizeLine
    · rw [if_pos hz] at p'
      exact sl_str pins s σ H _ v vl vu lo hi sl Q I rx hs pl pu ⟨z, rfl, hz, p' H m _ Le.refl rs (.str _)⟩
    · rw [if_neg hz] at p'; exact p'.elim
  | tup h1 h2 =>
    rename_i a xs vs
    refine sl_tupA pins s σ H _ v vl vu lo hi sl Q I rx hs pl pu ⟨a, vs, rfl, h1, fun hw => ?_, fun _ q hq => ?_⟩
    · have e : cutL xs lo hi = xs := by
        unfold cutL
        rw [h2.len, hw.1, hw.2, ← h2.len]
        simp
      have p' : PV X.K W H m σ' (.ok (.tup (cutL xs lo hi)) S) Q := p
      rw [e] at p'
      exact p' H m _ Le.refl rs (.tup h1 h2)
    · have l1 : Le X.K H m (upd H q (.tup (cutV vs lo hi))) m := Le.new hq
      exact p _ m _ l1 (rs.side hq) (.tup (SqT.of upd_same) ((h2.cut lo hi).up l1))
  | fl h1 h2 => exact listCase _ rfl p
  | ref h1 =>
    rename_i n a
    have p' : PV X.K W H m σ' (match listOf S (.ref n) with | some xs => .ok (.ref S.length) (S ++ [.lst (cutL xs lo hi)]) | none => .bad) Q := p
    cases e1 : listOf S (.ref n) with
    | none => rw [e1] at p'; exact p'.elim
    | some xs => rw [e1] at p'; exact listCase xs e1 p'
  | _ => exact p.elim
theorem e_sl {e : Expr} {lo hi : Option Expr} {f l u : FE} (he : PE X e (tE X.K W f)) (hl : PO X lo (tO X.K W l)) (hu : PO X hi (tO X.K W u)) : PE X (.Subscript e (.Slice lo hi none p2) pos) (tE X.K W (vSl f l u)) := by
  refine ⟨fun pins s σ H Q I h => (pe_slice sl_all he hl hu).run pins s σ H Q I ?_⟩
  refine (tE.then (k := fun E x S1 => (l E S1).bind fun a S2 => match oPart a with | none => .bad | some i => (u E S2).bind fun b S3 => match oPart b with | none => .bad | some j => gSl x i j S3) h).mono fun v H1 ⟨m, E, S, d, re, rs, rv, p⟩ => ?_
  show tE X.K W l σ H1 _
  refine ⟨m, E, S, re, rs, ?_⟩
  cases e1 : l E S with
  | exc c fs S1 => rw [e1] at p; exact p
  | bad => rw [e1] at p; exact p
  | ok a S1 =>
    rw [e1] at p
    intro H2 m2 va l2 rs2 ra
    have key : ∀ i, PV X.K W H2 m2 σ ((u E S1).bind fun b S3 => match oPart b with | none => .bad | some j => gSl d i j S3) Q →
        tO X.K W u σ H2 fun j H3 => ∃ W σ m S d, RS X.K H3 m S ∧ RV X.K H3 m d v ∧ PV X.K W H3 m σ (gSl d i j S) Q := by
      intro i p2
      refine ⟨m2, E, S1, re.up l2, rs2, ?_⟩
      cases e2 : u E S1 with
      | exc c fs S2 => rw [e2] at p2; exact p2
      | bad => rw [e2] at p2; exact p2
      | ok b S2 =>
        rw [e2] at p2
        intro H3 m3 vb l3 rs3 rb
        have p3 := PV.re l3 p2
        have rd3 : RV X.K H3 m3 d v := (rv.up l2).up l3
        cases rb with
        | non => exact ⟨W, σ, m3, S2, d, rs3, rd3, p3⟩
        | int j => exact ⟨W, σ, m3, S2, d, rs3, rd3, p3⟩
        | _ => exact p3.elim
    have p2 := PV.re l2 p
    cases ra with
    | non => exact key none p2
    | int i => exact key (some i) p2
    | _ => exact p2.elim
end
end Z
namespace Z
open PySem PySem.Spec PyProof.Rows L2

/-! ## builtins called -/
def gLen (ds : List D) (S : Sto) : Res := match ds with
  | [.str z] => if z.length ≤ sizeLine then .ok (.int z.length) S else .bad
  | [d] => (match seqOf S d with
    | some xs => .ok (.int xs.length) S
    | none => .bad)
  | _ => .bad
def gAbs (ds : List D) (S : Sto) : Res := match ds with
  | [.int i] => .ok (.int (if i < 0 then -i else i)) S
  | _ => .bad
def gInt (ds : List D) (S : Sto) : Res := match ds with
  | [.int i] => .ok (.int i) S
  | [.bl k] => .ok (.int (if k then 1 else 0)) S
  | [.str a] => (match PySem.intText? a with
    | some n => if a.length ≤ 640 then .ok (.int n) S else .bad
    | none => .bad)
  | _ => .bad
def gStr (ds : List D) (S : Sto) : Res := match ds with
  | [.int i] => if i.natAbs.log2 < 1920 then .ok (.str (toString i)) S else .bad
  | [.str a] => .ok (.str a) S
  | _ => .bad
def gAll (ds : List D) (S : Sto) : Res := match ds with
  | [d] => (match listOf S d with
    | some xs => (match blsOf xs with
      | some bs => .ok (.bl (bs.all id)) S
      | none => .bad)
    | none => .bad)
  | _ => .bad
def gAny (ds : List D) (S : Sto) : Res := match ds with
  | [d] => (match listOf S d with
    | some xs => (match blsOf xs with
      | some bs => .ok (.bl (bs.any id)) S
      | none => .bad)
    | none => .bad)
  | _ => .bad
def gSum (ds : List D) (S : Sto) : Res := match ds with
  | [d] => (match listOf S d with
    | some xs => (match intsOf xs with
      | some bs => .ok (.int bs.sum) S
      | none => .bad)
    | none => .bad)
  | _ => .bad
def gMax2 (ds : List D) (S : Sto) : Res := match ds with
  | [.int i, .int j] => .ok (.int (if j > i then j else i)) S
  | _ => .bad
def gMin2 (ds : List D) (S : Sto) : Res := match ds with
  | [.int i, .int j] => .ok (.int (if j < i then j else i)) S
  | _ => .bad
def gTuple (ds : List D) (S : Sto) : Res := match ds with
  | [d] => (match seqOf S d with
    | some xs => .ok (.tup xs) S
    | none => .bad)
  | _ => .bad
def gList (ds : List D) (S : Sto) : Res := match ds with
  | [d] => (match seqOf S d with
    | some xs => .ok (.ref S.length) (S ++ [.lst xs])
    | none => .bad)
  | _ => .bad
def gGcd (ds : List D) (S : Sto) : Res := match ds with
  | [.int a, .int b] => .ok (.int ((Nat.gcd a.natAbs b.natAbs : Nat) : Int)) S
  | _ => .bad
def gRepr (ds : List D) (S : Sto) : Res := match ds with
  | [d] => (match toPD S 40 d with
    | some p => if p.showable && (!p.hasDict || noList p) && decide (p.depth ≤ 60) && decide (p.shown.length ≤ sizeLine) then .ok (.str p.shown) S else .bad
    | none => .bad)
  | _ => .bad
section
variable {X : Cx} {W : WX}
/-- one argument -/
theorem oc1 {f : Value} {g : List D → Sto → Res} (h0 : ∀ S ds, (∀ d, ds ≠ [d]) → g ds S = .bad)
    (h : ∀ (W : WX) (pins : List (Addr × Obj)) (s : Shared) (σ : L2.St) (H : Hp) (m : List Addr) (S : Sto) (d : D) (x : V) (us : List Value) (Q : VK), Inv X pins σ H s → RS X.K H m S → RV X.K H m d x → Vals [x] us → PV X.K W H m σ (g [d] S) Q → wpAny (model X.prog X.w) X.A (call f us) (EP X pins σ Q) X.xe s) : OC X f g := by
  intro W pins s σ H m S ds xs us Q I rs rd r p
  by_cases e : ∃ d, ds = [d]
  · obtain ⟨d, rfl⟩ := e
    cases rd with
    | cons r1 r2 =>
      cases r2
      exact h W pins s σ H m S d _ us Q I rs r1 r p
  · rw [h0 S ds (fun d z => e ⟨d, z⟩)] at p
    exact p.elim
theorem c_len : OC X (.builtin "len") gLen := by
  refine oc1 (fun S ds h => ?_) fun W pins s σ H m S d x us Q I rs rd r p => ?_
  · unfold gLen
    split
    · exact absurd rfl (h _)
    · exact absurd rfl (h _)
    · rfl
  · have seqCase : PV X.K W H m σ (match seqOf S d with | some xs => .ok (.int xs.length) S | none => .bad) Q → wpAny (model X.prog X.w) X.A (call (.builtin "len") us) (EP X pins σ Q) X.xe s := by
      intro p
      cases e1 : seqOf S d with
      | none => rw [e1] at p; exact p.elim
      | some xs =>
        rw [e1] at p
        obtain ⟨a, vs, rfl, h1, h2⟩ := seq_at rs rd e1
        refine call_len_seq pins s σ H _ us Q I r ⟨a, vs, rfl, h1, ?_⟩
        rw [← h2.len]
        exact p H m _ Le.refl rs (.int _)
    cases rd with
    | str z =>
      have p' : PV X.K W H m σ (if z.length ≤ sizeLine then .ok (.int z.length) S else .bad) Q := p
      by_cases hz : z.length ≤ sizeLine
      · rw [if_pos hz] at p'
        exact call_len_str pins s σ H _ us Q I r ⟨z, rfl, hz, p' H m _ Le.refl rs (.int _)⟩
      · rw [if_neg hz] at p'; exact p'.elim
    | _ => exact seqCase p
theorem c_abs : OC X (.builtin "abs") gAbs := by
  refine oc1 (fun S ds h => ?_) fun W pins s σ H m S d x us Q I rs rd r p => ?_
  · unfold gAbs
    split
    · exact absurd rfl (h _)
    · rfl
  · cases rd with
    | int i => exact call_abs pins s σ H _ us Q I r ⟨i, rfl, p H m _ Le.refl rs (.int _)⟩
    | _ => exact p.elim
theorem c_int : OC X (.type "int") gInt := by
  refine oc1 (fun S ds h => ?_) fun W pins s σ H m S d x us Q I rs rd r p => ?_
  · unfold gInt
    split <;> first
      | exact absurd rfl (h _)
      | rfl
  · cases rd with
    | int i => exact call_int1 pins s σ H _ us Q I r (.inl ⟨i, rfl, p H m _ Le.refl rs (.int _)⟩)
    | bl i => exact call_int1 pins s σ H _ us Q I r (.inr ⟨i, rfl, p H m _ Le.refl rs (.int _)⟩)
    | str a =>
      have p' : PV X.K W H m σ (match PySem.intText? a with | some n => if a.length ≤ 640 then .ok (.int n) S else .bad | none => .bad) Q := p
      cases e : PySem.intText? a with
      | none => rw [e] at p'; exact p'.elim
      | some n =>
        rw [e] at p'
        by_cases hz : a.length ≤ 640
        · dsimp only at p'
          rw [if_pos hz] at p'
          exact call_int_str pins s σ H _ us Q I r ⟨a, n, rfl, e, hz, p' H m _ Le.refl rs (.int _)⟩
        · dsimp only at p'
          rw [if_neg hz] at p'; exact p'.elim
    | _ => exact p.elim
theorem c_str : OC X (.type "str") gStr := by
  refine oc1 (fun S ds h => ?_) fun W pins s σ H m S d x us Q I rs rd r p => ?_
  · unfold gStr
    split <;> first
      | exact absurd rfl (h _)
      | rfl
  · cases rd with
    | int i =>
      have p' : PV X.K W H m σ (if i.natAbs.log2 < 1920 then .ok (.str (toString i)) S else .bad) Q := p
      by_cases hz : i.natAbs.log2 < 1920
      · rw [if_pos hz] at p'
        exact call_str_int pins s σ H _ us Q I r ⟨i, rfl, hz, p' H m _ Le.refl rs (.str _)⟩
      · rw [if_neg hz] at p'; exact p'.elim
    | str a => exact SkE.call_str_str pins s σ H _ us Q I r ⟨a, rfl, p H m _ Le.refl rs (.str _)⟩
    | _ => exact p.elim
theorem c_all (hc : X.calm = true) : OC X (.builtin "all") gAll := by
  refine oc1 (fun S ds h => ?_) fun W pins s σ H m S d x us Q I rs rd r p => ?_
  · unfold gAll
    split <;> first
      | exact absurd rfl (h _)
      | rfl
  · have p' : PV X.K W H m σ (match listOf S d with | some xs => (match blsOf xs with | some bs => .ok (.bl (bs.all id)) S | none => .bad) | none => .bad) Q := p
    cases e1 : listOf S d with
    | none => rw [e1] at p'; exact p'.elim
    | some xs =>
      rw [e1] at p'
      dsimp only at p'
      cases e2 : blsOf xs with
      | none => rw [e2] at p'; exact p'.elim
      | some bs =>
        rw [e2] at p'
        obtain ⟨a, vs, rfl, h1, h2⟩ := list_at rs rd e1
        rw [blsOf_eq e2] at h2
        rw [h2.bls] at h1
        exact cr_all hc pins s σ H _ us Q I r ⟨a, bs, rfl, h1, p' H m _ Le.refl rs (.bl _)⟩
theorem c_any (hc : X.calm = true) : OC X (.builtin "any") gAny := by
  refine oc1 (fun S ds h => ?_) fun W pins s σ H m S d x us Q I rs rd r p => ?_
  · unfold gAny
    split <;> first
      | exact absurd rfl (h _)
      | rfl
  · have p' : PV X.K W H m σ (match listOf S d with | some xs => (match blsOf xs with | some bs => .ok (.bl (bs.any id)) S | none => .bad) | none => .bad) Q := p
    cases e1 : listOf S d with
    | none => rw [e1] at p'; exact p'.elim
    | some xs =>
      rw [e1] at p'
      dsimp only at p'
      cases e2 : blsOf xs with
      | none => rw [e2] at p'; exact p'.elim
      | some bs =>
        rw [e2] at p'
        obtain ⟨a, vs, rfl, h1, h2⟩ := list_at rs rd e1
        rw [blsOf_eq e2] at h2
        rw [h2.bls] at h1
        exact cr_any hc pins s σ H _ us Q I r ⟨a, bs, rfl, h1, p' H m _ Le.refl rs (.bl _)⟩
theorem c_sum (hc : X.calm = true) : OC X (.builtin "sum") gSum := by
  refine oc1 (fun S ds h => ?_) fun W pins s σ H m S d x us Q I rs rd r p => ?_
  · unfold gSum
    split <;> first
      | exact absurd rfl (h _)
      | rfl
  · have p' : PV X.K W H m σ (match listOf S d with | some xs => (match intsOf xs with | some bs => .ok (.int bs.sum) S | none => .bad) | none => .bad) Q := p
    cases e1 : listOf S d with
    | none => rw [e1] at p'; exact p'.elim
    | some xs =>
      rw [e1] at p'
      dsimp only at p'
      cases e2 : intsOf xs with
      | none => rw [e2] at p'; exact p'.elim
      | some bs =>
        rw [e2] at p'
        obtain ⟨a, vs, rfl, h1, h2⟩ := list_at rs rd e1
        rw [intsOf_eq e2] at h2
        rw [h2.ints] at h1
        exact cr_sum hc pins s σ H _ us Q I r ⟨a, bs, rfl, h1, p' H m _ Le.refl rs (.int _)⟩
theorem oc2I {f : Value} {g : List D → Sto → Res} {k : Int → Int → Int} (h0 : ∀ S ds, (∀ i j, ds ≠ [.int i, .int j]) → g ds S = .bad) (h1 : ∀ S i j, g [.int i, .int j] S = .ok (.int (k i j)) S)
    (h : CallR X f (fun xs H Q => ∃ i j, xs = [.int i, .int j] ∧ Q (.int (k i j)) H)) : OC X f g := by
  intro W pins s σ H m S ds xs us Q I rs rd r p
  by_cases e : ∃ i j, ds = [.int i, .int j]
  · obtain ⟨i, j, rfl⟩ := e
    cases rd with
    | cons r1 r2 =>
      cases r1
      cases r2 with
      | cons r1 r3 =>
        cases r1
        cases r3
        rw [h1] at p
        exact h pins s σ H _ us Q I r ⟨i, j, rfl, p H m _ Le.refl rs (.int _)⟩
  · rw [h0 S ds (fun i j z => e ⟨i, j, z⟩)] at p
    exact p.elim
theorem c_max2 (hc : X.calm = true) : OC X (.builtin "max") gMax2 := by
  refine oc2I (fun S ds h => ?_) (fun _ _ _ => rfl) (call_max2 hc)
  unfold gMax2
  split
  · exact absurd rfl (h _ _)
  · rfl
theorem c_min2 (hc : X.calm = true) : OC X (.builtin "min") gMin2 := by
  refine oc2I (fun S ds h => ?_) (fun _ _ _ => rfl) (call_min2 hc)
  unfold gMin2
  split
  · exact absurd rfl (h _ _)
  · rfl
theorem c_gcd : OC X (.builtin "math.gcd") gGcd := by
  refine oc2I (fun S ds h => ?_) (fun _ _ _ => rfl) (fun pins s σ H xs us Q I r h => cr_gcd pins s σ H xs us Q I r h)
  unfold gGcd
  split
  · exact absurd rfl (h _ _)
  · rfl
theorem c_tuple : OC X (.type "tuple") gTuple := by
  refine oc1 (fun S ds h => ?_) fun W pins s σ H m S d x us Q I rs rd r p => ?_
  · unfold gTuple
    split <;> first
      | exact absurd rfl (h _)
      | rfl
  · have listCase : ∀ xs, listOf S d = some xs → PV X.K W H m σ (.ok (.tup xs) S) Q → wpAny (model X.prog X.w) X.A (call (.type "tuple") us) (EP X pins σ Q) X.xe s := by
      intro xs e1 p
      obtain ⟨a, vs, rfl, h1, h2⟩ := list_at rs rd e1
      refine call_tuple_of pins s σ H _ us Q I r ⟨a, vs, rfl, .inl ⟨h1, fun q hq => ?_⟩⟩
      have l1 : Le X.K H m (upd H q (.tup vs)) m := Le.new hq
      exact p _ m _ l1 (rs.side hq) (.tup (SqT.of upd_same) (h2.up l1))
    cases rd with
    | tup h1 h2 => exact call_tuple_of pins s σ H _ us Q I r ⟨_, _, rfl, .inr ⟨h1, p H m _ Le.refl rs (.tup h1 h2)⟩⟩
    | fl h1 h2 => exact listCase _ rfl p
    | ref h1 =>
      rename_i n a
      have p' : PV X.K W H m σ (match seqOf S (.ref n) with | some xs => .ok (.tup xs) S | none => .bad) Q := p
      cases e1 : seqOf S (.ref n) with
      | none => rw [e1] at p'; exact p'.elim
      | some xs => rw [e1] at p'; exact listCase xs e1 p'
    | _ => exact p.elim
theorem c_list : OC X (.type "list") gList := by
  refine oc1 (fun S ds h => ?_) fun W pins s σ H m S d x us Q I rs rd r p => ?_
  · unfold gList
    split <;> first
      | exact absurd rfl (h _)
      | rfl
  · have p' : PV X.K W H m σ (match seqOf S d with | some xs => .ok (.ref S.length) (S ++ [.lst xs]) | none => .bad) Q := p
    cases e1 : seqOf S d with
    | none => rw [e1] at p'; exact p'.elim
    | some xs =>
      rw [e1] at p'
      obtain ⟨a, vs, rfl, h1, h2⟩ := seq_at rs rd e1
      refine call_list_of pins s σ H _ us Q I r ⟨a, vs, rfl, h1, fun q hq => ?_⟩
      obtain ⟨l1, r1⟩ := rs.alloc hq h2
      exact p' _ _ _ l1 r1 (.ref (by rw [← rs.len]; simp))
theorem c_repr (hg : X.A.guards = some []) (hu : X.A.units + 64 < cLine) : OC X (.builtin "repr") gRepr := by
  refine oc1 (fun S ds h => ?_) fun W pins s σ H m S d x us Q I rs rd r p => ?_
  · unfold gRepr
    split <;> first
      | exact absurd rfl (h _)
      | rfl
  · obtain ⟨u, rfl, ru⟩ := Vals.one r
    have gen : PV X.K W H m σ (match toPD S 40 d with | some p => if p.showable && (!p.hasDict || noList p) && decide (p.depth ≤ 60) && decide (p.shown.length ≤ sizeLine) then .ok (.str p.shown) S else .bad | none => .bad) Q →
        wpAny (model X.prog X.w) X.A (call (.builtin "repr") [u]) (EP X pins σ Q) X.xe s := by
      intro p'
      cases e1 : toPD S 40 d with
      | none => rw [e1] at p'; exact p'.elim
      | some pd =>
        rw [e1] at p'
        dsimp only at p'
        by_cases hz : (pd.showable && (!pd.hasDict || noList pd) && decide (pd.depth ≤ 60) && decide (pd.shown.length ≤ sizeLine)) = true
        · rw [if_pos hz] at p'
          simp only [Bool.and_eq_true, Bool.or_eq_true, Bool.not_eq_true', decide_eq_true_eq] at hz
          obtain ⟨⟨⟨z1, z2⟩, z3⟩, z4⟩ := hz
          have q := p' H m _ Le.refl rs (.str _)
          obtain ⟨as, hr, hn⟩ := reads_of I rs rd ru e1
          have hsm : pd.hasDict = true → sysModules ∉ as := fun h => by
            rcases z2 with z | z
            · rw [z] at h; cases h
            · exact hn z
          have key : ∀ a, u = .ref a → wpAny (model X.prog X.w) X.A (call (.builtin "repr") [u]) (EP X pins σ Q) X.xe s := by
            intro a ea
            subst ea
            refine repr_of_reads' hr z1 hsm hg (by omega) (fun _ _ e => e) (fun h' u' tk hk => ?_) z4
            exact ⟨.str pd.shown, H, I.kept (t' := tk) hk, ⟨_, rfl⟩, q⟩
          cases rd with
          | non => simp [toPD] at e1; subst e1; cases ru; exact PySem.P.repr_of_none ⟨.str _, H, I.tok _, ⟨_, rfl⟩, q⟩
          | bl b => simp [toPD] at e1; subst e1; cases ru; exact PySem.P.repr_of_bool ⟨.str _, H, I.tok _, ⟨_, rfl⟩, q⟩
          | int i => simp [toPD] at e1; subst e1; obtain ⟨t, rfl⟩ := ru; exact PySem.P.repr_of_int (by simpa [PyData.showable] using z1) ⟨.str _, H, I.tok _, ⟨_, rfl⟩, q⟩
          | str i => simp [toPD] at e1; subst e1; obtain ⟨t, rfl⟩ := ru; exact PySem.P.repr_of_str ⟨.str _, H, I.tok _, ⟨_, rfl⟩, q⟩ (by simpa [PyData.shown] using z4)
          | tup h1 h2 => exact key _ ru
          | fl h1 h2 => exact key _ ru
          | ref h1 => exact key _ ru
          | emp h1 => exact key _ ru
        · rw [if_neg hz] at p'; exact p'.elim
    exact gen p
end
end Z
namespace Z
open PySem PySem.Spec PyProof.Rows L2

/-! ## statements -/
def PQ (K : PySem.W.Frag) (W : WX) (H : Hp) (m : List Addr) (r : SRes) (D : Ends) : Prop := match r with
  | .nx E S => ∀ H' m' σ, Le K H m H' m' → RE K H' m' E σ → RS K H' m' S → D.nx σ H'
  | .brk E S => ∀ H' m' σ, Le K H m H' m' → RE K H' m' E σ → RS K H' m' S → D.bk σ H'
  | .cnt E S => ∀ H' m' σ, Le K H m H' m' → RE K H' m' E σ → RS K H' m' S → D.ct σ H'
  | .ret d S => ∀ H' m' v, Le K H m H' m' → RS K H' m' S → RV K H' m' d v → D.rt v H'
  | .exc c fs E S => ∀ H' m' σ cls dd, Le K H m H' m' → RE K H' m' E σ → RS K H' m' S → RX K H' m' c fs cls dd → W cls dd σ H'
  | .bad => False
theorem PQ.re {K W H m H1 m1} {r : SRes} {D : Ends} (l : Le K H m H1 m1) (h : PQ K W H m r D) : PQ K W H1 m1 r D := by
  cases r with
  | nx E S => exact fun H' m' σ l' => h H' m' σ (l.trans l')
  | brk E S => exact fun H' m' σ l' => h H' m' σ (l.trans l')
  | cnt E S => exact fun H' m' σ l' => h H' m' σ (l.trans l')
  | ret d S => exact fun H' m' v l' => h H' m' v (l.trans l')
  | exc c fs E S => exact fun H' m' σ cls dd l' => h H' m' σ cls dd (l.trans l')
  | bad => exact h
def tS (K : PySem.W.Frag) (W : WX) (f : FS) : TS := fun D σ H => ∃ m E S, RE K H m E σ ∧ RS K H m S ∧ PQ K W H m (f E S) D
def Res.s (r : Res) (E : Ev) (k : D → Sto → SRes) : SRes := match r with
  | .ok d S => k d S
  | .exc c fs S => .exc c fs E S
  | .bad => .bad
def ResB.s (r : ResB) (E : Ev) (k : Bool → Sto → SRes) : SRes := match r with
  | .ok d S => k d S
  | .exc c fs S => .exc c fs E S
  | .bad => .bad
def SRes.then (r : SRes) (k : FS) : SRes := match r with
  | .nx E S => k E S
  | r => r
@[simp] theorem Res.s_ok {d S E} {k : D → Sto → SRes} : (Res.ok d S).s E k = k d S := rfl
@[simp] theorem Res.s_exc {c fs S E} {k : D → Sto → SRes} : (Res.exc c fs S).s E k = .exc c fs E S := rfl
@[simp] theorem Res.s_bad {E} {k : D → Sto → SRes} : Res.bad.s E k = .bad := rfl
@[simp] theorem ResB.s_ok {d S E} {k : Bool → Sto → SRes} : (ResB.ok d S).s E k = k d S := rfl
@[simp] theorem ResB.s_exc {c fs S E} {k : Bool → Sto → SRes} : (ResB.exc c fs S).s E k = .exc c fs E S := rfl
@[simp] theorem ResB.s_bad {E} {k : Bool → Sto → SRes} : ResB.bad.s E k = .bad := rfl
@[simp] theorem SRes.then_nx {E S} {k : FS} : (SRes.nx E S).then k = k E S := rfl
@[simp] theorem SRes.then_ret {d S} {k : FS} : (SRes.ret d S).then k = .ret d S := rfl
@[simp] theorem SRes.then_brk {E S} {k : FS} : (SRes.brk E S).then k = .brk E S := rfl
@[simp] theorem SRes.then_cnt {E S} {k : FS} : (SRes.cnt E S).then k = .cnt E S := rfl
@[simp] theorem SRes.then_exc {c fs E S} {k : FS} : (SRes.exc c fs E S).then k = .exc c fs E S := rfl
@[simp] theorem SRes.then_bad {k : FS} : SRes.bad.then k = .bad := rfl

def sNil : FS := fun E S => .nx E S
def sSeq (f g : FS) : FS := fun E S => (f E S).then g
def sSet (i : Nat) (f : FE) : FS := fun E S => (f E S).s E fun d S1 => .nx (E.set i (some d)) S1
def sEx (f : FE) : FS := fun E S => (f E S).s E fun _ S1 => .nx E S1
def sRet (f : FE) : FS := fun E S => (f E S).s E fun d S1 => .ret d S1
def sRetN : FS := fun _ S => .ret .non S
def sIf (t : FB) (f g : FS) : FS := fun E S => (t E S).s E fun b S1 => if b then f E S1 else g E S1
/-- a tuple's items into slots: a tree of names -/
inductive Pat where
  | nm (i : Nat)
  | tp (ps : List Pat)
mutual
def Pat.put : Pat → D → Ev → Option Ev
  | .nm i, d, E => some (E.set i (some d))
  | .tp ps, .tup xs, E => if ps.length = xs.length then Pat.puts ps xs E else none
  | .tp _, _, _ => none
def Pat.puts : List Pat → List D → Ev → Option Ev
  | [], [], E => some E
  | p :: ps, d :: ds, E => (match Pat.put p d E with
    | some E1 => Pat.puts ps ds E1
    | none => none)
  | _, _, _ => none
end
mutual
def Pat.slots : Pat → List Nat
  | .nm i => [i]
  | .tp ps => Pat.slotsL ps
def Pat.slotsL : List Pat → List Nat
  | [] => []
  | p :: ps => Pat.slots p ++ Pat.slotsL ps
end
def sPut (p : Pat) (f : FE) : FS := fun E S => (f E S).s E fun d S1 => match p.put d E with
  | some E1 => .nx E1 S1
  | none => .bad
/-- xs[i] = e: e first -/
def sSub (f o i : FE) : FS := fun E S => (f E S).s E fun d S1 => (o E S1).s E fun x S2 => (i E S2).s E fun k S3 => match x, k with
  | .ref n, .int j => (match S3[n]? with
    | some (.lst xs) => (match ixN xs.length j with
      | some a => .nx E (S3.set n (.lst (xs.set a d)))
      | none => .bad)
    | _ => .bad)
  | _, _ => .bad
section
variable {X : Cx} {W : WX} {pos : Pos}
theorem s_nil : PSs X [] (tS X.K W sNil) := ⟨fun pins s σ H D I ⟨m, E, S, re, rs, p⟩ => pss_nil.run pins s σ H D I (p H m σ Le.refl re rs)⟩
theorem s_cons {st : Stmt} {rest : List Stmt} {f g : FS} (h1 : PS X st (tS X.K W f)) (h2 : PSs X rest (tS X.K W g)) : PSs X (st :: rest) (tS X.K W (sSeq f g)) := by
  refine ⟨fun pins s σ H D I ⟨m, E, S, re, rs, p⟩ => (pss_cons h1 h2).run pins s σ H D I ?_⟩
  refine ⟨m, E, S, re, rs, ?_⟩
  have p' : PQ X.K W H m ((f E S).then g) D := p
  cases e : f E S with
  | nx E1 S1 => rw [e] at p'; exact fun H1 m1 σ1 l re1 rs1 => ⟨m1, E1, S1, re1, rs1, PQ.re l p'⟩
  | brk E1 S1 => rw [e] at p'; exact p'
  | cnt E1 S1 => rw [e] at p'; exact p'
  | ret d S1 => rw [e] at p'; exact p'
  | exc c fs E1 S1 => rw [e] at p'; exact p'
  | bad => rw [e] at p'; exact p'
theorem s_one {st : Stmt} {f : FS} (h1 : PS X st (tS X.K W f)) : PSs X [st] (tS X.K W (sSeq f sNil)) := s_cons h1 s_nil
/-- an expression's value, then what hangs on it -/
theorem tE.stm {K : PySem.W.Frag} {W : WX} {σ : L2.St} {H : Hp} {f : FE} {k : Ev → D → Sto → SRes} {D : Ends} (h : tS K W (fun E S => (f E S).s E (k E)) D σ H) :
    tE K W f σ H fun v H1 => ∃ m E S d, RE K H1 m E σ ∧ RS K H1 m S ∧ RV K H1 m d v ∧ PQ K W H1 m (k E d S) D := by
  obtain ⟨m, E, S, re, rs, p⟩ := h
  refine ⟨m, E, S, re, rs, ?_⟩
  have p' : PQ K W H m ((f E S).s E (k E)) D := p
  cases e : f E S with
  | ok d S1 => rw [e] at p'; exact fun H1 m1 v l rs1 rv => ⟨m1, E, S1, d, re.up l, rs1, rv, PQ.re l p'⟩
  | exc c fs S1 => rw [e] at p'; exact fun H1 m1 cls dd l rs1 rx => p' H1 m1 σ cls dd l (re.up l) rs1 rx
  | bad => rw [e] at p'; exact p'
theorem tT.stm {K : PySem.W.Frag} {W : WX} {σ : L2.St} {H : Hp} {f : FB} {k : Ev → Bool → Sto → SRes} {D : Ends} (h : tS K W (fun E S => (f E S).s E (k E)) D σ H) :
    tT K W f σ H fun b H1 => ∃ m E S, RE K H1 m E σ ∧ RS K H1 m S ∧ PQ K W H1 m (k E b S) D := by
  obtain ⟨m, E, S, re, rs, p⟩ := h
  refine ⟨m, E, S, re, rs, ?_⟩
  have p' : PQ K W H m ((f E S).s E (k E)) D := p
  cases e : f E S with
  | ok d S1 => rw [e] at p'; exact fun H1 m1 l rs1 => ⟨m1, E, S1, re.up l, rs1, PQ.re l p'⟩
  | exc c fs S1 => rw [e] at p'; exact fun H1 m1 cls dd l rs1 rx => p' H1 m1 σ cls dd l (re.up l) rs1 rx
  | bad => rw [e] at p'; exact p'
theorem s_set {i : Nat} {x : Str} {e : Expr} {f : FE} {pos' : Pos} (hN : X.N.Nodup) (hi : X.N[i]? = some x) (hx : Loc X.env.scope x) (he : PE X e (tE X.K W f)) (hs : swapsWith e (some (.Name x pos')) pos.line X.env = pure false := by rfl)
    (hf : X.fn x = true ∨ X.env.scope.names.lookup x = some .local := by first | exact .inl rfl | exact .inr rfl) : PS X (.Assign [.Name x pos'] e pos) (tS X.K W (sSet i f)) := by
  refine ⟨fun pins s σ H D I h => (ps_set hN hi hx he hs hf).run pins s σ H D I ?_⟩
  exact (tE.stm (k := fun E d S1 => .nx (E.set i (some d)) S1) h).mono fun v H1 ⟨m, E, S, d, re, rs, rv, p⟩ => p H1 m _ Le.refl (re.set i rv) rs
theorem s_ex {e : Expr} {f : FE} (he : PE X e (tE X.K W f)) (hsw : swapsWith e none pos.line X.env = pure false := by rfl) : PS X (.Expr e pos) (tS X.K W (sEx f)) := by
  refine ⟨fun pins s σ H D I h => (ps_expr he hsw).run pins s σ H D I ?_⟩
  exact (tE.stm (k := fun E d S1 => .nx E S1) h).mono fun v H1 ⟨m, E, S, d, re, rs, rv, p⟩ => p H1 m _ Le.refl re rs
theorem s_ret {e : Expr} {f : FE} (he : PE X e (tE X.K W f)) : PS X (.Return (some e) pos) (tS X.K W (sRet f)) := by
  refine ⟨fun pins s σ H D I h => (ps_ret he).run pins s σ H D I ?_⟩
  exact (tE.stm (k := fun E d S1 => .ret d S1) h).mono fun v H1 ⟨m, E, S, d, re, rs, rv, p⟩ => p H1 m v Le.refl rs rv
theorem s_retN : PS X (.Return none pos) (tS X.K W sRetN) := ⟨fun pins s σ H D I ⟨m, E, S, re, rs, p⟩ => ps_retN.run pins s σ H D I (p H m _ Le.refl rs .non)⟩
theorem s_pass : PS X (.Pass pos) (tS X.K W sNil) := ⟨fun pins s σ H D I ⟨m, E, S, re, rs, p⟩ => ps_pass.run pins s σ H D I (p H m σ Le.refl re rs)⟩
def sBrk : FS := fun E S => .brk E S
def sCnt : FS := fun E S => .cnt E S
theorem s_brk : PS X (.Break pos) (tS X.K W sBrk) := ⟨fun pins s σ H D I ⟨m, E, S, re, rs, p⟩ => ps_break.run pins s σ H D I (p H m σ Le.refl re rs)⟩
theorem s_cnt : PS X (.Continue pos) (tS X.K W sCnt) := ⟨fun pins s σ H D I ⟨m, E, S, re, rs, p⟩ => ps_continue.run pins s σ H D I (p H m σ Le.refl re rs)⟩
theorem s_if {c : Expr} {a b : List Stmt} {t : FB} {f g : FS} (hc : PT X c (tT X.K W t)) (ha : PSs X a (tS X.K W f)) (hb : PSs X b (tS X.K W g)) : PS X (.If c a b pos) (tS X.K W (sIf t f g)) := by
  refine ⟨fun pins s σ H D I h => (ps_if hc ha hb).run pins s σ H D I ?_⟩
  refine (tT.stm (k := fun E b S1 => if b then f E S1 else g E S1) h).mono fun b H1 ⟨m, E, S, re, rs, p⟩ => ?_
  cases b with
  | true => exact iteT ⟨m, E, S, re, rs, p⟩
  | false => exact iteF ⟨m, E, S, re, rs, p⟩
theorem wipe_set_mem {σ : L2.St} {i : Nat} {o : Option V} : ∀ {vs : List Nat}, i ∈ vs → wipe (σ.set i o) vs = wipe σ vs
  | [], h => by cases h
  | v :: vs, h => by
    by_cases e : v = i
    · subst e
      show (wipe (σ.set v o) vs).set v none = (wipe σ vs).set v none
      have comm : ∀ (us : List Nat), (wipe (σ.set v o) us).set v none = (wipe σ us).set v none := by
        intro us
        induction us with
        | nil => show (σ.set v o).set v none = σ.set v none; rw [List.set_set]
        | cons u us ih =>
          show ((wipe (σ.set v o) us).set u none).set v none = ((wipe σ us).set u none).set v none
          by_cases e2 : u = v
          · subst e2; rw [List.set_set, List.set_set]; exact ih
          · rw [List.set_comm _ _ e2, List.set_comm _ _ e2, ih]
      exact comm vs
    · have h' : i ∈ vs := by
        rcases List.mem_cons.mp h with z | z
        · exact absurd z.symm e
        · exact z
      show (wipe (σ.set i o) vs).set v none = (wipe σ vs).set v none
      rw [wipe_set_mem h']
theorem wipe_twice (σ : L2.St) (vs : List Nat) : wipe (wipe σ vs) vs = wipe σ vs := by
  have gen : ∀ us : List Nat, (∀ u ∈ us, u ∈ vs) → wipe (wipe σ us) vs = wipe σ vs := by
    intro us
    induction us with
    | nil => intro _; rfl
    | cons u us ih =>
      intro h
      show wipe ((wipe σ us).set u none) vs = wipe σ vs
      rw [wipe_set_mem (h u List.mem_cons_self)]
      exact ih fun x hx => h x (List.mem_cons_of_mem _ hx)
  exact gen vs fun _ h => h
/-- a target's reading -/
def Fits (p : List Nat) (σ σ' : L2.St) : Prop := ∀ vs : List Nat, (∀ i ∈ p, i ∈ vs) → wipe σ' vs = wipe σ vs
def GP (K : PySem.W.Frag) (p : Pat) (g : TG) : Prop := ∀ (d : D) (v : V) (σ : L2.St) (H : Hp) (m : List Addr) (E E1 : Ev) (Q : L2.St → Hp → Prop), RV K H m d v → RE K H m E σ → p.put d E = some E1 → (∀ σ', RE K H m E1 σ' → Fits p.slots σ σ' → Q σ' H) → g v σ H Q
def GPs (K : PySem.W.Frag) (p : List Pat) (g : TGs) : Prop := ∀ (ds : List D) (vs : List V) (σ : L2.St) (H : Hp) (m : List Addr) (E E1 : Ev) (Q : L2.St → Hp → Prop), RVs K H m ds vs → RE K H m E σ → Pat.puts p ds E = some E1 → (∀ σ', RE K H m E1 σ' → Fits (Pat.slotsL p) σ σ' → Q σ' H) → g vs σ H Q
theorem gp_nm {K : PySem.W.Frag} (i : Nat) : GP K (.nm i) (gName i) := fun d v σ H m E E1 Q rv re h q => by
  simp only [Pat.put, Option.some.injEq] at h
  subst h
  exact q _ (re.set i rv) fun vs hv => wipe_set_mem (hv i (by simp [Pat.slots]))
theorem gps_nil {K : PySem.W.Frag} : GPs K [] gNil := fun ds vs σ H m E E1 Q rv re h q => by
  cases rv with
  | nil => simp only [Pat.puts, Option.some.injEq] at h; subst h; exact ⟨rfl, q _ re fun _ _ => rfl⟩
  | cons _ _ => simp [Pat.puts] at h
theorem gps_cons {K : PySem.W.Frag} {p : Pat} {ps : List Pat} {g : TG} {gs : TGs} (h1 : GP K p g) (h2 : GPs K ps gs) : GPs K (p :: ps) (gCons g gs) := fun ds vs σ H m E E1 Q rv re h q => by
  cases rv with
  | nil => simp [Pat.puts] at h
  | cons r t =>
    rename_i d v ds vs
    simp only [Pat.puts] at h
    cases e : p.put d E with
    | none => simp [e] at h
    | some E2 =>
      simp only [e] at h
      refine ⟨v, vs, rfl, h1 d v σ H m E E2 _ r re e fun σ' re' f1 => h2 ds vs σ' H m E2 E1 Q t re' h fun σ2 re2 f2 => q σ2 re2 fun us hu => ?_⟩
      simp only [Pat.slotsL, List.mem_append] at hu
      rw [f2 us (fun i hi => hu i (.inr hi)), f1 us (fun i hi => hu i (.inl hi))]
theorem gp_tp {K : PySem.W.Frag} {ps : List Pat} {gs : TGs} {n : Nat} (hn : ps.length = n) (h : GPs K ps gs) : GP K (.tp ps) (gTup K n gs) := fun d v σ H m E E1 Q rv re e q => by
  cases rv with
  | tup h1 h2 =>
    rename_i a xs vs
    simp only [Pat.put] at e
    by_cases hl : ps.length = xs.length
    · rw [if_pos hl] at e
      exact ⟨a, vs, rfl, h1, by rw [← h2.len, ← hl, hn], h xs vs σ H m E E1 Q h2 re e fun σ' re' f => q σ' re' (by simpa only [Pat.slots] using f)⟩
    · rw [if_neg hl] at e; cases e
  | _ => simp [Pat.put] at e
theorem s_put {tg e : Expr} {f : FE} {p : Pat} {g : TG} (he : PE X e (tE X.K W f)) (hg : PG X tg g) (hp : GP X.K p g) (hs : swapsWithSole [tg] e pos.line X.env = pure false := by rfl) (hw : swappedStores [tg] e X.env = pure none := by rfl)
    (h1 : (assignEach [tg] X.env).map (·.2) = [assign tg X.env] := by rfl) : PS X (.Assign [tg] e pos) (tS X.K W (sPut p f)) := by
  refine ⟨fun pins s σ H D I h => (ps_asg he hg hs hw h1).run pins s σ H D I ?_⟩
  refine (tE.stm (k := fun E d S1 => match p.put d E with | some E1 => .nx E1 S1 | none => .bad) h).mono fun v H1 ⟨m, E, S, d, re, rs, rv, q⟩ => ?_
  cases e : p.put d E with
  | none => simp only [e] at q; exact q.elim
  | some E1 =>
    simp only [e] at q
    exact hp d v σ H1 m E E1 _ rv re e fun σ' re' _ => q H1 m σ' Le.refl re' rs
theorem s_sub {o i e : Expr} {f fo fi : FE} {p2 : Pos} (he : PE X e (tE X.K W f)) (ho : PE X o (tE X.K W fo)) (hi : PE X i (tE X.K W fi)) (hg : PG X (.Subscript o i p2) (L2.gSub (tE X.K W fo) (tE X.K W fi) rSetL))
    (hs : swapsWithSole [.Subscript o i p2] e pos.line X.env = pure false := by rfl) (hw : swappedStores [.Subscript o i p2] e X.env = pure none := by rfl)
    (h1 : (assignEach [.Subscript o i p2] X.env).map (·.2) = [assign (.Subscript o i p2) X.env] := by rfl) : PS X (.Assign [.Subscript o i p2] e pos) (tS X.K W (sSub f fo fi)) := by
  refine ⟨fun pins s σ H D I h => (ps_asg he hg hs hw h1).run pins s σ H D I ?_⟩
  refine (tE.stm (k := fun E d S1 => (fo E S1).s E fun x S2 => (fi E S2).s E fun k S3 => match x, k with
    | .ref n, .int j => (match S3[n]? with
      | some (.lst xs) => (match ixN xs.length j with
        | some a => .nx E (S3.set n (.lst (xs.set a d)))
        | none => .bad)
      | _ => .bad)
    | _, _ => .bad) h).mono fun v H1 ⟨m, E, S, d, re, rs, rv, p⟩ => ?_
  show tE X.K W fo σ H1 _
  refine ⟨m, E, S, re, rs, ?_⟩
  cases e1 : fo E S with
  | exc c fs S1 => rw [e1] at p; exact fun H2 m2 cls dd l rs1 rx => p H2 m2 σ cls dd l (re.up l) rs1 rx
  | bad => rw [e1] at p; exact p
  | ok x S1 =>
    rw [e1] at p
    intro H2 m2 vx l2 rs2 rx
    show tE X.K W fi σ H2 _
    refine ⟨m2, E, S1, re.up l2, rs2, ?_⟩
    have p2 := PQ.re l2 p
    simp only [Res.s_ok] at p2
    cases e2 : fi E S1 with
    | exc c fs S2 => rw [e2] at p2; exact fun H2 m2 cls dd l rs1 rx => p2 H2 m2 σ cls dd l ((re.up l2).up l) rs1 rx
    | bad => rw [e2] at p2; exact p2
    | ok k S2 =>
      rw [e2] at p2
      intro H3 m3 vk l3 rs3 rk
      have p3 := PQ.re l3 p2
      simp only [Res.s_ok] at p3
      have rx3 := rx.up l3
      cases rx3 with
      | ref h1 =>
        rename_i n a
        cases rk with
        | int j =>
          cases e3 : S2[n]? with
          | none => simp [e3] at p3; exact p3.elim
          | some c =>
            cases c with
            | lst xs =>
              simp only [e3] at p3
              cases e4 : ixN xs.length j with
              | none => simp only [e4] at p3; exact p3.elim
              | some b =>
                simp only [e4] at p3
                obtain ⟨a', vs, q1, q2, q3, q4⟩ := rs3.list e3 (.ref h1)
                cases q1
                refine ⟨_, vs, j, b, rfl, rfl, q3, by rw [← q4.len]; exact e4, ?_⟩
                have rv3 : RV X.K H3 m3 d v := (rv.up l2).up l3
                obtain ⟨l4, r4⟩ := rs3.write e3 h1 q3 (RVs.set rv3 b q4)
                exact p3 _ m3 σ l4 (((re.up l2).up l3).up l4) r4
            | _ => simp [e3] at p3; exact p3.elim
        | _ => exact p3.elim
      | _ => cases rk <;> exact p3.elim
end

/-! ## defs -/
structure FnG (P : Program) (w : World) (K : PySem.W.Frag) (mg : Str → Option Value) (base : Heap) (k : Nat) (f : Addr) (fd : FuncData) (ps : List Str) (sp : Sp) : Prop where
  len : ∀ vs H Q E, sp vs H Q E → vs.length = ps.length
  run : ∀ (A : Around) (outer : List Env) (s : Shared) (H : Hp) (args : Args) (us : List Value) (vs : List V) (Q : VK) (E : XK), A.guards = some [] → Room k A → Env0 P w K mg base A outer s H →
    BindsTo s fd args (ps.zip us) → Vals vs us → sp vs H Q E → codeAny (model P w) A (.call (.ref f) args) (CR (L2.CX P w) outer P w H s Q E) s
theorem FnG.mono {P w K mg base j k f fd ps sp} (F : FnG P w K mg base j f fd ps sp) (h : j ≤ k) : FnG P w K mg base k f fd ps sp :=
  ⟨F.len, fun A outer s H args us vs Q E hg hr => F.run A outer s H args us vs Q E hg (hr.mono h)⟩
theorem FnG.imp {P w K mg base k f fd ps sp sp'} (F : FnG P w K mg base k f fd ps sp) (h : ∀ vs H Q E, sp' vs H Q E → sp vs H Q E) : FnG P w K mg base k f fd ps sp' :=
  ⟨fun vs H Q E q => F.len vs H Q E (h _ _ _ _ q), fun A outer s H args us vs Q E hg hr he hb hv hs => F.run A outer s H args us vs Q E hg hr he hb hv (h _ _ _ _ hs)⟩
/-- a def's promise by its function -/
def spF (K : PySem.W.Frag) (n : Nat) (F : List D → Sto → Res) : Sp := fun vs H Q E => ∃ m S ds, ds.length = n ∧ RS K H m S ∧ RVs K H m ds vs ∧ PV K (fun c d _ H' => E c d H') H m [] (F ds S) Q
/-- what a body does, from the arguments -/
def runS (L : Nat) (b : FS) (ds : List D) (S : Sto) : Res := match b (ds.map some ++ List.replicate (L - ds.length) none) S with
  | .nx _ S1 => .ok .non S1
  | .ret d S1 => .ok d S1
  | .exc c fs _ S1 => .exc c fs S1
  | _ => .bad
theorem start_rel {K : PySem.W.Frag} {H : Hp} {m : List Addr} {N : List Str} {ds : List D} {vs : List V} (h : RVs K H m ds vs) : RE K H m (ds.map some ++ List.replicate (N.length - ds.length) none) (L2.start N vs) := by
  unfold L2.start
  rw [← h.len]
  refine ⟨by simp [h.len], fun i d e => ?_⟩
  by_cases hi : i < ds.length
  · rw [List.getElem?_append_left (by simpa using hi)] at e
    have hd : ds[i]? = some d := by
      rw [List.getElem?_map] at e
      cases q : ds[i]? with
      | none => rw [q] at e; cases e
      | some d' => rw [q] at e; cases e; rfl
    obtain ⟨v, h1, h2⟩ := h.at hd
    refine ⟨v, ?_, h2⟩
    rw [List.getElem?_append_left (by simpa [← h.len] using hi), List.getElem?_map, h1]
    rfl
  · rw [List.getElem?_append_right (by simpa using hi), List.getElem?_replicate] at e
    split at e <;> cases e
theorem fn_ok {P : Program} {w : World} {K : PySem.W.Frag} {mg : Str → Option Value} {base : Heap} {x qual : Str} {params : Arguments} {body : List Stmt} {scope : Scope} {dvs : List V} {kws : List (Str × V)} {f : Addr} {fd : FuncData} {N ps : List Str} {k : Nat} {b : FS}
    (F : FunD K x qual params body scope dvs kws f fd) (Sc : FnScope N ps scope)
    (hb : ∀ (cdv : Value) (A : Around) (outer : List Env) (s : Shared) (H : Hp) (E : XK), A.guards = some [] → Room k (A.deeper (envOfC qual scope s.heap.objs.size f cdv)) →
      PSs (cxOf (L2.CX P w) P w K mg base N qual scope f cdv A outer s H E) body (tS K (fun c d _ H' => E c d H') b)) :
    FnG P w K mg base (k + 1) f fd ps (spF K ps.length (runS N.length b)) := by
  obtain ⟨oc, od, dV, kV, doc, pm, an, cdv, ct, osl, rfl, lk, hcd, _, _⟩ := F.ex
  have len : ∀ vs H Q E, spF K ps.length (runS N.length b) vs H Q E → vs.length = ps.length := fun vs H Q E ⟨m, S, ds, h1, _, h2, _⟩ => by rw [← h2.len, h1]
  refine ⟨len, fun A outer s H args us vs Q E hg hr e0 hbd r hsp => ?_⟩
  have cont : ∀ (H' : Hp) (vs' : List V) (Q' : VK) (E' : XK), spF K ps.length (runS N.length b) vs' H' Q' E' → tS K (fun c d _ H'' => E' c d H'') b { nx := fun _ H'' => Q' .non H'', rt := Q' } (L2.start N vs') H' := by
    intro H' vs' Q' E' ⟨m, S, ds, h1, h2, h3, h4⟩
    refine ⟨m, _, S, start_rel h3, h2, ?_⟩
    unfold runS at h4
    cases e : b (ds.map some ++ List.replicate (N.length - ds.length) none) S with
    | nx E1 S1 => rw [e] at h4; exact fun H1 m1 σ l _ rs1 => h4 H1 m1 _ l rs1 .non
    | ret d S1 => rw [e] at h4; exact fun H1 m1 v l rs1 rv => h4 H1 m1 v l rs1 rv
    | exc c fs E1 S1 => rw [e] at h4; exact fun H1 m1 σ cls dd l _ rs1 rx => h4 H1 m1 cls dd l rs1 rx
    | brk E1 S1 => rw [e] at h4; exact h4.elim
    | cnt E1 S1 => rw [e] at h4; exact h4.elim
    | bad => rw [e] at h4; exact h4.elim
  have hl := len _ _ _ _ hsp
  have KX : K.In s.heap := e0.mod.kin.keeps fun b o e => (e0.bs b o e).1
  have hkind : ∀ y ∈ ps.zip us, scope.names.lookup y.1 = some .local ∨ (scope.names.lookup y.1 = some .cell ∧ ((cellsFrom (s.heap.objs.size + 1) scope.names []).lookup y.1).isSome = true) := by
    intro y hy
    rcases Sc.par y.1 (List.of_mem_zip (a := y.1) (b := y.2) hy).1 with q | q
    · exact .inl q
    · exact .inr ⟨q, PySem.W.cellsFrom_some _ _ _ (.inl q)⟩
  refine codeAny_call_function hr.depth (KX _ _ lk) rfl Sc.co Sc.gen rfl (PySem.W.codeRec_of KX hcd) (hbd _ _ _ _ ?_)
  refine wpAny_newFunctionEnv_cells Sc.kind hkind fun env he s1 ic => ?_
  subst he
  refine ⟨(e0.mod.nolimit.keeps fun b o e => (e0.bs b o e).1).keeps ic.toInCall.keep, codeAny_func ?_⟩
  have I : Inv (cxOf (L2.CX P w) P w K mg base N qual scope f cdv A outer s H E) [] (L2.start N vs) H s1 := inv_start Sc hr.hd e0 hl r ic
  refine wpAny_mono ((hb cdv A outer s H E hg (hr.deeper _)).run [] s1 (L2.start N vs) H _ I (cont H vs Q E hsp)) (fun fl s' hs => ?_) fun e s' hs => hs
  cases fl with
  | ret u =>
    obtain ⟨v, σ', H', J, rv, q⟩ := hs
    exact ⟨v, H', J.os, J.bare, J.base, J.hok, rv, q⟩
  | next =>
    obtain ⟨σ', H', J, q⟩ := hs
    exact ⟨.non, H', J.os, J.bare, J.base, J.hok, rfl, q⟩
  | brk =>
    obtain ⟨σ', H', J, q⟩ := hs
    exact (show False from q).elim
  | cont =>
    obtain ⟨σ', H', J, q⟩ := hs
    exact (show False from q).elim
end Z
namespace Z
open PySem PySem.Spec PyProof.Rows L2

/-! ## calls of the text's own defs -/
def pick {α : Type} (idx : List Nat) (l : List α) : List α := idx.filterMap fun i => l[i]?
/-- how n values written by place, and those by the names ks, come to the parameters: idx, over them and the defaults -/
structure Bd (K : PySem.W.Frag) (fd : FuncData) (ps : List Str) (n : Nat) (ks : List Str) (idx : List Nat) (dfl : List D) : Prop where
  to : ∃ (dvs : List V) (du : List Value), (∀ H m, RVs K H m dfl dvs) ∧ Vals dvs du ∧ ∀ (s : Shared) (us : List Value), K.In s.heap → us.length = n + ks.length →
    BindsTo s fd ⟨us.take n, ks.zip (us.drop n)⟩ (ps.zip (pick idx (us ++ du)))
theorem Vals.pick {vs : List V} {us : List Value} (h : Vals vs us) : ∀ idx : List Nat, Vals (Z.pick idx vs) (Z.pick idx us)
  | [] => .nil
  | i :: r => by
    show Vals (List.filterMap (fun i => vs[i]?) (i :: r)) (List.filterMap (fun i => us[i]?) (i :: r))
    cases e : vs[i]? with
    | none =>
      rw [List.filterMap_cons, List.filterMap_cons, e, h.none_of e]
      exact Vals.pick h r
    | some v =>
      obtain ⟨u, hu, rv⟩ := h.get e
      rw [List.filterMap_cons, List.filterMap_cons, e, hu]
      exact .cons rv (Vals.pick h r)
theorem RVs.pick {K H m} {ds : List D} {vs : List V} (h : RVs K H m ds vs) : ∀ idx : List Nat, RVs K H m (Z.pick idx ds) (Z.pick idx vs)
  | [] => .nil
  | i :: r => by
    show RVs K H m (List.filterMap (fun i => ds[i]?) (i :: r)) (List.filterMap (fun i => vs[i]?) (i :: r))
    cases e : ds[i]? with
    | none =>
      have e2 : vs[i]? = none := by
        rw [List.getElem?_eq_none_iff] at e ⊢
        rw [← h.len]; exact e
      rw [List.filterMap_cons, List.filterMap_cons, e, e2]
      exact RVs.pick h r
    | some d =>
      obtain ⟨v, hv, rv⟩ := h.at e
      rw [List.filterMap_cons, List.filterMap_cons, e, hv]
      exact .cons rv (RVs.pick h r)
/-- the callee's function behind the binding -/
def vFn (n : Nat) (idx : List Nat) (dfl : List D) (Fn : List D → Sto → Res) (ds : List D) (S : Sto) : Res := if ds.length = n then Fn (pick idx (ds ++ dfl)) S else .bad
def lApp (l r : FL) : FL := fun E S => (l E S).bindL fun xs S1 => (r E S1).bindL fun ys S2 => .ok (xs ++ ys) S2
section
variable {X : Cx} {W : WX} {pos p : Pos} {x : Str} {f : Addr} {fd : FuncData} {ps ks : List Str} {n lv : Nat} {idx : List Nat} {dfl : List D} {Fn : List D → Sto → Res} {np : Nat}
theorem run_call {pins : List (Addr × Obj)} {s : Shared} {σ : L2.St} {H : Hp} {m : List Addr} {S : Sto} {ds : List D} {vs : List V} {us : List Value} {Q : VK} (F : FnG X.prog X.w X.K X.mg X.base lv f fd ps (spF X.K np Fn)) (hr : Room lv X.A) (hgd : X.A.guards = some [])
    (tk : Takes X W) (B : Bd X.K fd ps n ks idx dfl) (I : Inv X pins σ H s) (rs : RS X.K H m S) (rv : RVs X.K H m ds vs) (r : Vals vs us) (hn : us.length = n + ks.length)
    (hl : (pick idx (ds ++ dfl)).length = np) (q : PV X.K W H m σ (Fn (pick idx (ds ++ dfl)) S) Q) : wpAny (model X.prog X.w) X.A (call (.ref f) (us.take n) (ks.zip (us.drop n))) (EP X pins σ Q) X.xe s := by
  obtain ⟨dvs, du, h1, h2, h3⟩ := B.to
  have hsp : spF X.K np Fn (pick idx (vs ++ dvs)) H Q (fun c d H' => W c d σ H') := by
    refine ⟨m, S, _, hl, rs, (rv.app (h1 H m)).pick idx, ?_⟩
    cases e : Fn (pick idx (ds ++ dfl)) S with
    | ok d S1 => rw [e] at q; exact q
    | exc c fs S1 => rw [e] at q; exact q
    | bad => rw [e] at q; exact q
  refine wpAny_call (codeAny_mono (F.run X.A X.stack s H _ (pick idx (us ++ du)) (pick idx (vs ++ dvs)) Q (fun c d H' => W c d σ H') hgd hr I.env0 (h3 s us I.kIn hn) (Vals.pick (r.append h2) idx) hsp) fun r' s' hq => ?_)
  cases r' with
  | error e => exact tk e s' (XE.of_call I (fun _ _ _ z => z) hq)
  | ok fl =>
    cases fl with
    | ret u => exact I.after hq
    | next => exact (show False from hq).elim
    | brk => exact (show False from hq).elim
    | cont => exact (show False from hq).elim
theorem e_call {e : Expr} {es : List Expr} {l : FL} (F : FnG X.prog X.w X.K X.mg X.base lv f fd ps (spF X.K np Fn)) (hr : Room lv X.A) (hgd : X.A.guards = some []) (tk : Takes X W) (hg : Gl X x) (hm : X.mg x = some (.ref f)) (hk : PySem.W.keepIn X.K (.ref f) = true)
    (B : Bd X.K fd ps n [] idx dfl) (hl : ∀ ds : List D, ds.length = n → (pick idx (ds ++ dfl)).length = np) (ha : PA X (e :: es) (tL X.K W l)) (hdb : (x == ("__debug__" : Str)) = false := by decide)
    (he : starEach (e :: es) X.env = (false, eval e X.env) :: starEach es X.env := by rfl)
    (hpl : (backTo pos (starEach es X.env)).any (·.1) = false := by rfl) : PE X (.Call (.Name x p) (e :: es) [] pos) (tE X.K W (vCall (vFn n idx dfl Fn) l)) := by
  refine ⟨fun pins s σ H Q I h => ?_⟩
  refine wpAny_Call_Name_kw (ld_glob I hg hm ?_ hdb)
  refine PySem.W.callWith_K (h₀ := X.base) I.ok.mod.kin hk (thn (ha.run pos pins s σ H _ I (tL.then (k := fun _ => vFn n idx dfl Fn) h)) fun us s1 ⟨vs, H1, I1, r, m, E, S, ds, re, rs, rv, q⟩ => ⟨I1.kIn, ?_⟩) he hpl
  unfold vFn at q
  by_cases hn : ds.length = n
  · rw [if_pos hn] at q
    have hu : us.length = n + ([] : List Str).length := by rw [← r.length, ← rv.len, hn]; rfl
    have := run_call F hr hgd tk B I1 rs rv r hu (hl ds hn) q
    rw [List.take_of_length_le (by have z : ([] : List Str).length = 0 := rfl; omega)] at this
    exact this
  · rw [if_neg hn] at q; exact q.elim
theorem e_call0 (F : FnG X.prog X.w X.K X.mg X.base lv f fd ps (spF X.K np Fn)) (hr : Room lv X.A) (hgd : X.A.guards = some []) (tk : Takes X W) (hg : Gl X x) (hm : X.mg x = some (.ref f)) (hk : PySem.W.keepIn X.K (.ref f) = true)
    (B : Bd X.K fd ps 0 [] idx dfl) (hl : ∀ ds : List D, ds.length = 0 → (pick idx (ds ++ dfl)).length = np) (hdb : (x == ("__debug__" : Str)) = false := by decide) : PE X (.Call (.Name x p) [] [] pos) (tE X.K W (vCall (vFn 0 idx dfl Fn) lNil)) := by
  refine ⟨fun pins s σ H Q I ⟨m, E, S, re, rs, q⟩ => ?_⟩
  refine wpAny_Call_Name_kw (ld_glob I hg hm ?_ hdb)
  refine PySem.W.callWith_K0 I.kIn hk ?_
  exact run_call (us := []) (ds := []) F hr hgd tk B I rs .nil .nil rfl (hl [] rfl) q
theorem lapp {K : PySem.W.Frag} {σ : L2.St} {H : Hp} {l r : FL} {k : List D → Sto → Res} {Q : VK} (h : tE K W (vCall k (lApp l r)) σ H Q) :
    tL K W l σ H fun vs H1 => tL K W r σ H1 fun us H2 => ∃ m S ds es, RS K H2 m S ∧ RVs K H2 m ds vs ∧ RVs K H2 m es us ∧ PV K W H2 m σ (k (ds ++ es) S) Q := by
  obtain ⟨m, E, S, re, rs, p⟩ := h
  refine ⟨m, E, S, re, rs, ?_⟩
  have p' : PV K W H m σ (((l E S).bindL fun xs S1 => (r E S1).bindL fun ys S2 => .ok (xs ++ ys) S2).bind k) Q := p
  cases e : l E S with
  | ok ds S1 =>
    rw [e] at p'
    intro H1 m1 vs l1 rs1 rv
    refine ⟨m1, E, S1, re.up l1, rs1, ?_⟩
    simp only [ResL.bindL_ok] at p'
    have p2 := PV.re l1 p'
    cases e2 : r E S1 with
    | ok es S2 =>
      rw [e2] at p2
      exact fun H2 m2 us l2 rs2 ru => ⟨m2, S2, ds, es, rs2, rv.up l2, ru, PV.re l2 p2⟩
    | exc c fs S2 => rw [e2] at p2; exact p2
    | bad => rw [e2] at p2; exact p2
  | exc c fs S1 => rw [e] at p'; exact p'
  | bad => rw [e] at p'; exact p'
/-- f(e, .., k = v, ..) -/
theorem e_callK {e : Expr} {es : List Expr} {kws : List Keyword} {l r : FL} (F : FnG X.prog X.w X.K X.mg X.base lv f fd ps (spF X.K np Fn)) (hr : Room lv X.A) (hgd : X.A.guards = some []) (tk : Takes X W) (hg : Gl X x) (hm : X.mg x = some (.ref f)) (hk : PySem.W.keepIn X.K (.ref f) = true)
    (B : Bd X.K fd ps n ks idx dfl) (hl : ∀ ds : List D, ds.length = n + ks.length → (pick idx (ds ++ dfl)).length = np) (hne : (e :: es).length = n) (ha : PA X (e :: es) (tL X.K W l)) (hkw : PK X kws (tL X.K W r)) (hlen : ∀ E S vs S1, l E S = .ok vs S1 → vs.length = n)
    (hall : (backToKw pos (keywordEach kws X.env)).all (·.1.isSome) = true := by rfl) (hks : (backToKw pos (keywordEach kws X.env)).filterMap (·.1) = ks := by rfl)
    (hdb : (x == ("__debug__" : Str)) = false := by decide) (he : starEach (e :: es) X.env = (false, eval e X.env) :: starEach es X.env := by rfl)
    (hpl : ((backTo pos (starEach (e :: es) X.env)).any (·.1) || (backToKw pos (keywordEach kws X.env)).any (·.1.isNone)) = false := by rfl) :
    PE X (.Call (.Name x p) (e :: es) kws pos) (tE X.K W (vCall (vFn (n + ks.length) idx dfl Fn) (lApp l r))) := by
  refine ⟨fun pins s σ H Q I h => ?_⟩
  refine wpAny_Call_Name_kw (ld_glob I hg hm ?_ hdb)
  have h2 := lapp h
  obtain ⟨m0, E0, S0, re0, rs0, p0⟩ := h2
  have h3 : tL X.K W l σ H fun vs H1 => vs.length = n ∧ tL X.K W r σ H1 fun us H2 => ∃ m S ds es, RS X.K H2 m S ∧ RVs X.K H2 m ds vs ∧ RVs X.K H2 m es us ∧ PV X.K W H2 m σ (vFn (n + ks.length) idx dfl Fn (ds ++ es) S) Q := by
    refine ⟨m0, E0, S0, re0, rs0, ?_⟩
    cases e : l E0 S0 with
    | ok ds S1 => rw [e] at p0; exact fun H1 m1 vs l1 rs1 rv => ⟨by rw [← rv.len]; exact hlen _ _ _ _ e, p0 H1 m1 vs l1 rs1 rv⟩
    | exc c fs S1 => rw [e] at p0; exact p0
    | bad => rw [e] at p0; exact p0
  refine PySem.W.callWith_KW (h₀ := X.base) I.ok.mod.kin hk hall (thn (ha.run pos pins s σ H _ I h3) fun us s1 ⟨vs, H1, I1, r1, hvn, q⟩ => ?_) hpl he
  refine thn (hkw.run pos pins s1 σ H1 _ I1 q) fun ws s2 ⟨zs, H2, I2, r2, m, S, ds, es', rs, rv, rz, q2⟩ => ⟨I2.kIn, ?_⟩
  rw [hks]
  unfold vFn at q2
  by_cases hn : (ds ++ es').length = n + ks.length
  · rw [if_pos hn] at q2
    have hun : us.length = n := by rw [← r1.length, hvn]
    have hu : (us ++ ws).length = n + ks.length := by rw [List.length_append, ← r1.length, ← r2.length, ← rv.len, ← rz.len, ← List.length_append, hn]
    have := run_call F hr hgd tk B I2 rs (rv.app rz) (r1.append r2) hu (hl _ hn) q2
    rw [List.take_append_of_le_length (by omega), List.take_of_length_le (by omega), List.drop_append_of_le_length (by omega), List.drop_of_length_le (by omega)] at this
    exact this
  · rw [if_neg hn] at q2; exact q2.elim
/-- f(k = v, ..) -/
theorem e_callK0 {kws : List Keyword} {r : FL} (F : FnG X.prog X.w X.K X.mg X.base lv f fd ps (spF X.K np Fn)) (hr : Room lv X.A) (hgd : X.A.guards = some []) (tk : Takes X W) (hg : Gl X x) (hm : X.mg x = some (.ref f)) (hk : PySem.W.keepIn X.K (.ref f) = true)
    (B : Bd X.K fd ps 0 ks idx dfl) (hl : ∀ ds : List D, ds.length = ks.length → (pick idx (ds ++ dfl)).length = np) (hkw : PK X kws (tL X.K W r))
    (hall : (backToKw pos (keywordEach kws X.env)).all (·.1.isSome) = true := by rfl) (hks : (backToKw pos (keywordEach kws X.env)).filterMap (·.1) = ks := by rfl)
    (hdb : (x == ("__debug__" : Str)) = false := by decide)
    (hpl : ((backTo pos (starEach [] X.env)).any (·.1) || (backToKw pos (keywordEach kws X.env)).any (·.1.isNone)) = false := by rfl) :
    PE X (.Call (.Name x p) [] kws pos) (tE X.K W (vCall (vFn ks.length idx dfl Fn) r)) := by
  refine ⟨fun pins s σ H Q I h => ?_⟩
  refine wpAny_Call_Name_kw (ld_glob I hg hm ?_ hdb)
  refine PySem.W.callWith_KW0 (h₀ := X.base) I.ok.mod.kin hk hall ?_ hpl
  refine thn (hkw.run pos pins s σ H _ I (tL.then (k := fun _ => vFn ks.length idx dfl Fn) h)) fun ws s2 ⟨zs, H2, I2, r2, m, E, S, ds, re, rs, rv, q2⟩ => ⟨I2.kIn, ?_⟩
  rw [hks]
  unfold vFn at q2
  by_cases hn : ds.length = ks.length
  · rw [if_pos hn] at q2
    have hu : ws.length = 0 + ks.length := by rw [← r2.length, ← rv.len, hn]; omega
    exact run_call F hr hgd tk B I2 rs rv r2 hu (hl _ hn) q2
  · rw [if_neg hn] at q2; exact q2.elim
end

/-! ## what is walked -/
/-- lists that must stand as they were while they are walked -/
abbrev Src := List (Nat × List D)
inductive ResI where
  | ok (ds : List D) (src : Src) (S : Sto)
  | exc (c : Str) (fs : List (Str × D)) (S : Sto)
  | bad
abbrev FI := Ev → Sto → ResI
/-- the list that is walked stands as it was -/
def srcOk (src : Src) (_ : List D) (S : Sto) : Prop := ∀ p, p ∈ src → S[p.1]? = some (.lst p.2)
/-- turn by turn the items of ds -/
def WK (K : PySem.W.Frag) (H₀ : Hp) (m₀ : List Addr) (J : It) (ds : List D) (src : Src) : Prop := ∀ (H : Hp) (m : List Addr) (S : Sto), Le K H₀ m₀ H m → RS K H m S → srcOk src ds S →
  (∀ i, i < ds.length → J.go i H) ∧ J.stop ds.length H ∧ ∀ i x H', i < ds.length → J.yld i H x H' → ∃ m' d, Le K H m H' m' ∧ RS K H' m' S ∧ ds[i]? = some d ∧ RV K H' m' d x
def tI (K : PySem.W.Frag) (W : WX) (f : FI) : TI := fun σ H R => ∃ m E S, RE K H m E σ ∧ RS K H m S ∧ match f E S with
  | .ok ds src S1 => ∀ H' m' J, Le K H m H' m' → RS K H' m' S1 → srcOk src ds S1 → WK K H' m' J ds src → R J H'
  | .exc c fs S1 => ∀ H' m' cls dd, Le K H m H' m' → RS K H' m' S1 → RX K H' m' c fs cls dd → W cls dd σ H'
  | .bad => False
def Res.bindI (r : Res) (k : D → Sto → ResI) : ResI := match r with
  | .ok d S => k d S
  | .exc c fs S => .exc c fs S
  | .bad => .bad
@[simp] theorem Res.bindI_ok {d S} {k : D → Sto → ResI} : (Res.ok d S).bindI k = k d S := rfl
@[simp] theorem Res.bindI_exc {c fs S} {k : D → Sto → ResI} : (Res.exc c fs S).bindI k = .exc c fs S := rfl
@[simp] theorem Res.bindI_bad {k : D → Sto → ResI} : Res.bad.bindI k = .bad := rfl
def itSeq (d : D) (S : Sto) : ResI := match d with
  | .tup xs => .ok xs [] S
  | .fl xs => .ok xs [] S
  | .ref n => (match S[n]? with
    | some (.lst xs) => .ok xs [(n, xs)] S
    | _ => .bad)
  | _ => .bad
def iSeq (f : FE) : FI := fun E S => (f E S).bindI itSeq
def rngD (lo : Int) (n : Nat) : List D := (List.range n).map fun (i : Nat) => D.int (lo + (i : Int))
def itR1 (d : D) (S : Sto) : ResI := match d with
  | .int j => if -(2 ^ 62) ≤ j ∧ j < 2 ^ 62 then .ok (rngD 0 j.toNat) [] S else .bad
  | _ => .bad
def iRng (f : FE) : FI := fun E S => (f E S).bindI itR1
section
variable {K : PySem.W.Frag} {H : Hp} {m : List Addr}
theorem wk_list {a : Addr} {ds : List D} {n : Nat} (ha : m[n]? = some a) : WK K H m (Itl K a) ds [(n, ds)] := by
  intro H1 m1 S l rs hs0
  have hs : S[n]? = some (.lst ds) := hs0 (n, ds) (by simp)
  obtain ⟨a', vs, e1, h1, h2, h3⟩ := rs.list hs (.ref (l.m _ _ ha))
  cases e1
  refine ⟨fun i hi => ?_, ⟨vs, SqL.of h2, by rw [h3.len]; exact Nat.le_refl _⟩, fun i x H' hi y => ?_⟩
  · obtain ⟨v, hv, _⟩ := h3.at (List.getElem?_eq_getElem hi)
    exact ⟨vs, v, SqL.of h2, hv⟩
  · obtain ⟨rfl, y⟩ := y
    obtain ⟨d, e, rv⟩ := h3.at' (y vs (SqL.of h2))
    exact ⟨m1, d, Le.refl, rs, e, rv⟩
theorem wk_fl {a : Addr} {ds : List D} {vs : List V} (ha : SqF K H a vs) (r : RVs K H m ds vs) : WK K H m (Itl K a) ds [] := by
  intro H1 m1 S l rs hs
  have h2 := (l.f _ _ ha).sq
  have h3 := r.up l
  refine ⟨fun i hi => ?_, ⟨vs, h2, by rw [h3.len]; exact Nat.le_refl _⟩, fun i x H' hi y => ?_⟩
  · obtain ⟨v, hv, _⟩ := h3.at (List.getElem?_eq_getElem hi)
    exact ⟨vs, v, h2, hv⟩
  · obtain ⟨rfl, y⟩ := y
    obtain ⟨d, e, rv⟩ := h3.at' (y vs h2)
    exact ⟨m1, d, Le.refl, rs, e, rv⟩
theorem wk_tup {a : Addr} {ds : List D} {vs : List V} (ha : SqT K H a vs) (r : RVs K H m ds vs) : WK K H m (Itt K a) ds [] := by
  intro H1 m1 S l rs hs
  have h2 := l.t _ _ ha
  have h3 := r.up l
  refine ⟨fun i hi => ?_, ⟨vs, h2, by rw [h3.len]; exact Nat.le_refl _⟩, fun i x H' hi y => ?_⟩
  · obtain ⟨v, hv, _⟩ := h3.at (List.getElem?_eq_getElem hi)
    exact ⟨vs, v, h2, hv⟩
  · obtain ⟨rfl, y⟩ := y
    obtain ⟨d, e, rv⟩ := h3.at' (y vs h2)
    exact ⟨m1, d, Le.refl, rs, e, rv⟩
theorem wk_rng {lo : Int} {n : Nat} : WK K H m (Itr lo n) (rngD lo n) [] := by
  intro H1 m1 S l rs hs
  have hl : (rngD lo n).length = n := by simp [rngD]
  refine ⟨fun i hi => by rw [hl] at hi; exact hi, by rw [hl]; exact Nat.le_refl _, fun i x H' hi y => ?_⟩
  obtain ⟨rfl, rfl⟩ := y
  rw [hl] at hi
  exact ⟨m1, .int (lo + i), Le.refl, rs, by simp [rngD, hi], .int _⟩
end
section
variable {X : Cx} {W : WX} {tg : Expr}
theorem i_seq {l : Expr} {f : FE} (he : PE X l (tE X.K W f)) : PI X tg l (tI X.K W (iSeq f)) := by
  refine ⟨fun pins s σ H R I h => ?_⟩
  have h' : tE X.K W f σ H fun v H1 => ∃ m S d, RS X.K H1 m S ∧ RV X.K H1 m d v ∧ match itSeq d S with
      | .ok ds src S1 => ∀ H' m' J, Le X.K H1 m H' m' → RS X.K H' m' S1 → srcOk src ds S1 → WK X.K H' m' J ds src → R J H'
      | .exc c fs S1 => ∀ H' m' cls dd, Le X.K H1 m H' m' → RS X.K H' m' S1 → RX X.K H' m' c fs cls dd → W cls dd σ H'
      | .bad => False := by
    obtain ⟨m, E, S, re, rs, p⟩ := h
    refine ⟨m, E, S, re, rs, ?_⟩
    unfold iSeq at p
    cases e : f E S with
    | ok d S1 =>
      rw [e] at p
      simp only [Res.bindI_ok] at p
      intro H1 m1 v l1 rs1 rv
      refine ⟨m1, S1, d, rs1, rv, ?_⟩
      cases e2 : itSeq d S1 with
      | ok ds src S2 => rw [e2] at p; exact fun H' m' J l' => p H' m' J (l1.trans l')
      | exc c fs S2 => rw [e2] at p; exact fun H' m' cls dd l' => p H' m' cls dd (l1.trans l')
      | bad => rw [e2] at p; exact p
    | exc c fs S1 => rw [e] at p; exact p
    | bad => rw [e] at p; exact p
  refine thn (he.run pins s σ H _ I h') fun v s1 ⟨x, H1, I1, r1, m, S, d, rs, rd, q⟩ => ?_
  have newIt : FpOk X pins H1 s1.heap.objs.size := I1.fpOk (Nat.le_refl _) (I1.hok.fresh (Nat.le_refl _))
  have fps : ∀ b ∈ [s1.heap.objs.size], FpOk X pins H1 b := fun b hb => by
    have e : b = s1.heap.objs.size := by simpa using hb
    subst e
    exact newIt
  cases rd with
  | tup h1 h2 =>
    rename_i a xs vs
    cases r1
    obtain ⟨its, rv, p, hz⟩ := I1.tuple h1
    refine wpAny_pyIter_tuple (show s1.heap.IsTuple a its.toArray from p) ?_
    exact ⟨_, _, _, _, H1, rfl, I1.kept (t' := s1.toks) fun b o e => Heap.get?_push_of_some _ e, turn_tuple a _, ⟨_, Heap.get?_push_size _ rfl, rfl, rfl⟩, fps, q H1 m _ Le.refl rs (fun p h => by cases h) (wk_tup h1 h2)⟩
  | fl h1 h2 =>
    rename_i a xs vs
    cases r1
    obtain ⟨its, rv, p, hz⟩ := I1.list h1.sq
    refine wpAny_pyIter_list p.isList ?_
    exact ⟨_, _, _, _, H1, rfl, I1.kept (t' := s1.toks) fun b o e => Heap.get?_push_of_some _ e, turn_list a _, ⟨_, Heap.get?_push_size _ rfl, rfl, rfl⟩, fps, q H1 m _ Le.refl rs (fun p h => by cases h) (wk_fl h1 h2)⟩
  | ref h1 =>
    rename_i n a
    simp only [itSeq] at q
    cases e : S[n]? with
    | none => simp only [e] at q
    | some c =>
      cases c with
      | lst xs =>
        simp only [e] at q
        obtain ⟨a', vs, e1, q2, q3, q4⟩ := rs.list e (.ref h1)
        cases e1
        cases r1
        obtain ⟨its, rv, p, hz⟩ := I1.list (SqL.of q3)
        refine wpAny_pyIter_list p.isList ?_
        exact ⟨_, _, _, _, H1, rfl, I1.kept (t' := s1.toks) fun b o e => Heap.get?_push_of_some _ e, turn_list _ _, ⟨_, Heap.get?_push_size _ rfl, rfl, rfl⟩, fps, q H1 m _ Le.refl rs (fun p h => by simp at h; subst h; exact e) (wk_list h1)⟩
      | _ => simp only [e] at q
  | _ => exact (show False from q).elim
theorem i_rng {a : Expr} {f : FE} {p pos : Pos} (hg : Gl X "range") (hm : X.mg "range" = none) (he : PE X a (tE X.K W f)) (hs : starEach [a] X.env = [(false, eval a X.env)] := by rfl) : PI X tg (.Call (.Name "range" p) [a] [] pos) (tI X.K W (iRng f)) := by
  refine ⟨fun pins s σ H R I h => (pi_range1 hg hm (pa_cons he pa_nil (by rw [hs]; rfl)) hs).run pins s σ H R I ?_⟩
  obtain ⟨m, E, S, re, rs, p⟩ := h
  show tE X.K W f σ H _
  refine ⟨m, E, S, re, rs, ?_⟩
  unfold iRng at p
  cases e : f E S with
  | ok d S1 =>
    rw [e] at p
    simp only [Res.bindI_ok] at p
    intro H1 m1 v l1 rs1 rv
    cases rv with
    | int j =>
      have p' : match (if -(2 ^ 62) ≤ j ∧ j < 2 ^ 62 then ResI.ok (rngD 0 j.toNat) [] S1 else ResI.bad) with
        | .ok ds src S1 => ∀ H' m' J, Le X.K H m H' m' → RS X.K H' m' S1 → srcOk src ds S1 → WK X.K H' m' J ds src → R J H'
        | .exc c fs S1 => ∀ H' m' cls dd, Le X.K H m H' m' → RS X.K H' m' S1 → RX X.K H' m' c fs cls dd → W cls dd σ H'
        | .bad => False := p
      by_cases hz : -(2 ^ 62) ≤ j ∧ j < 2 ^ 62
      · rw [if_pos hz] at p'
        exact ⟨j, rfl, hz.1, hz.2, p' H1 m1 _ l1 rs1 (fun p h => by cases h) wk_rng⟩
      · rw [if_neg hz] at p'; exact p'.elim
    | _ => exact (show False from p).elim
  | exc c fs S1 => rw [e] at p; exact p
  | bad => rw [e] at p; exact p
end
end Z
namespace Z
open PySem PySem.Spec PyProof.Rows L2

/-! ## for -/
/-- the list at src is ds: asked only where a list is walked (by a proof, not by a computation) -/
noncomputable def srcIf {α : Type} (src : Src) (ds : List D) (S : Sto) (k bad : α) : α := open Classical in if srcOk src ds S then k else bad
theorem srcIf_ok {α : Type} {src : Src} {ds : List D} {S : Sto} {k bad : α} (h : srcOk src ds S) : srcIf src ds S k bad = k := by
  unfold srcIf
  rw [if_pos h]
@[simp] theorem srcIf_none {α : Type} {ds : List D} {S : Sto} {k bad : α} : srcIf [] ds S k bad = k := srcIf_ok fun p h => by cases h
theorem srcIf_some {α : Type} {n : Nat} {ds : List D} {S : Sto} {k bad : α} (h : S[n]? = some (.lst ds)) : srcIf [(n, ds)] ds S k bad = k := srcIf_ok fun p hp => by simp at hp; subst hp; exact h
noncomputable def forS (p : Pat) (b : FS) (src : Src) (all : List D) : List D → FS
  | [], E, S => srcIf src all S (.nx E S) .bad
  | d :: r, E, S => srcIf src all S (match p.put d E with
    | none => .bad
    | some E1 => (match b E1 S with
      | .nx E2 S2 => forS p b src all r E2 S2
      | .cnt E2 S2 => forS p b src all r E2 S2
      | .brk E2 S2 => .nx E2 S2
      | x => x)) .bad
noncomputable def sFor (it : FI) (p : Pat) (b : FS) : FS := fun E S => match it E S with
  | .ok ds src S1 => forS p b src ds ds E S1
  | .exc c fs S1 => .exc c fs E S1
  | .bad => .bad
section
variable {X : Cx} {W : WX} {pos : Pos}
theorem srcIf_split {α : Type} {src : Src} {ds : List D} {S : Sto} {k bad : α} {P : α → Prop} (h : P (srcIf src ds S k bad)) (hb : ¬ P bad) : srcOk src ds S ∧ P k := by
  unfold srcIf at h
  by_cases e : srcOk src ds S
  · rw [if_pos e] at h; exact ⟨e, h⟩
  · rw [if_neg e] at h; exact absurd h hb
theorem s_for {tg iter : Expr} {body : List Stmt} {it : FI} {p : Pat} {g : TG} {b : FS} (hp : PassesOwn (model X.prog X.w) X.A X.env X.xe) (hc : X.calm = true) (hi : PI X tg iter (tI X.K W it)) (hg : PG X tg g) (hgp : GP X.K p g) (hb : PSs X body (tS X.K W b))
    (hs : ∀ x, foldedSetIterable iter X.env x = pure x := by intro _; rfl) : PS X (.For tg iter body [] pos) (tS X.K W (sFor it p b)) := by
  refine ⟨fun pins s σ H D I h => (ps_for hp hc hi hg hb hs).run pins s σ H D I ?_⟩
  obtain ⟨m, E, S, re, rs, q⟩ := h
  refine ⟨m, E, S, re, rs, ?_⟩
  unfold sFor at q
  cases e : it E S with
  | exc c fs S1 => rw [e] at q; exact fun H1 m1 cls dd l rs1 rx => q H1 m1 σ cls dd l (re.up l) rs1 rx
  | bad => rw [e] at q; exact q
  | ok ds src S1 =>
    rw [e] at q
    intro H1 m1 J l1 rs1 so wk
    have q1 := PQ.re l1 q
    dsimp only at q1
    -- what holds ahead of turn i
    refine ⟨fun i mm σ' H' => mm = ds.length - i ∧ i ≤ ds.length ∧ ∃ m' E' S', Le X.K H1 m1 H' m' ∧ RE X.K H' m' E' σ' ∧ RS X.K H' m' S' ∧ PQ X.K W H' m' (forS p b src ds (ds.drop i) E' S') D, ⟨_, rfl, Nat.zero_le _, m1, E, S1, Le.refl, re.up l1, rs1, by simpa using q1⟩, ?_⟩
    rintro i mm σ' H' ⟨rfl, hi, m', E', S', l', re', rs', q'⟩
    by_cases hlt : i < ds.length
    · rw [List.drop_eq_getElem_cons hlt] at q'
      unfold forS at q'
      obtain ⟨so', q''⟩ := srcIf_split (P := fun r => PQ X.K W H' m' r D) q' (fun z => z)
      obtain ⟨w1, w2, w3⟩ := wk H' m' S' l' rs' so'
      refine .inr ⟨w1 i hlt, fun σ'' H'' => ∃ m'' E'' S'', Le X.K H1 m1 H'' m'' ∧ RE X.K H'' m'' E'' σ'' ∧ RS X.K H'' m'' S'' ∧ PQ X.K W H'' m'' (forS p b src ds (ds.drop (i + 1)) E'' S'') D,
        fun σ'' H'' ⟨m'', E'', S'', a1, a2, a3, a4⟩ => ⟨ds.length - (i + 1), by omega, rfl, hlt, m'', E'', S'', a1, a2, a3, a4⟩, fun x H2 y => ?_⟩
      obtain ⟨m2, d, l2, rs2, ed, rd⟩ := w3 i x H2 hlt y
      have ed2 : ds[i] = d := by
        rw [List.getElem?_eq_getElem hlt] at ed
        exact Option.some.inj ed
      rw [ed2] at q''
      cases ep : p.put d E' with
      | none => simp only [ep] at q''; exact q''.elim
      | some E2 =>
        simp only [ep] at q''
        refine hgp d x σ' H2 m2 E' E2 _ rd (re'.up l2) ep fun σ2 re2 _ => ?_
        refine ⟨m2, E2, S', re2, rs2, ?_⟩
        have q3 := PQ.re l2 q''
        cases eb : b E2 S' with
        | nx E3 S3 => rw [eb] at q3; exact fun H3 m3 σ3 l3 re3 rs3 => ⟨m3, E3, S3, (l'.trans l2).trans l3, re3, rs3, PQ.re l3 q3⟩
        | cnt E3 S3 => rw [eb] at q3; exact fun H3 m3 σ3 l3 re3 rs3 => ⟨m3, E3, S3, (l'.trans l2).trans l3, re3, rs3, PQ.re l3 q3⟩
        | brk E3 S3 => rw [eb] at q3; exact q3
        | ret d3 S3 => rw [eb] at q3; exact q3
        | exc c fs E3 S3 => rw [eb] at q3; exact q3
        | bad => rw [eb] at q3; exact q3
    · have e : i = ds.length := by omega
      subst e
      rw [List.drop_length] at q'
      unfold forS at q'
      obtain ⟨so', q''⟩ := srcIf_split (P := fun r => PQ X.K W H' m' r D) q' (fun z => z)
      obtain ⟨w1, w2, w3⟩ := wk H' m' S' l' rs' so'
      exact .inl ⟨w2, q'' H' m' σ' Le.refl re' rs'⟩

/-! ## while: with a number of turns that is not reached -/
def whileS (t : FB) (b : FS) : Nat → FS
  | 0, _, _ => .bad
  | n + 1, E, S => (t E S).s E fun c S1 => if c then (match b E S1 with
    | .nx E2 S2 => whileS t b n E2 S2
    | .cnt E2 S2 => whileS t b n E2 S2
    | .brk E2 S2 => .nx E2 S2
    | x => x) else .nx E S1
/-- it comes to an end: the number of turns is some one -/
noncomputable def sWhile (t : FB) (b : FS) : FS := fun E S => open Classical in if h : ∃ n, whileS t b n E S ≠ .bad then whileS t b h.choose E S else .bad
theorem whileS_more {t : FB} {b : FS} : ∀ (n k : Nat) (E : Ev) (S : Sto), whileS t b n E S ≠ .bad → whileS t b (n + k) E S = whileS t b n E S
  | 0, _, _, _, h => absurd rfl h
  | n + 1, k, E, S, h => by
    rw [Nat.add_right_comm]
    unfold whileS at h ⊢
    cases e : t E S with
    | exc c fs S1 => rfl
    | bad => rfl
    | ok c S1 =>
      simp only [e, ResB.s_ok] at h ⊢
      cases c with
      | false => rfl
      | true =>
        simp only [if_true] at h ⊢
        cases eb : b E S1 with
        | nx E2 S2 => simp only [eb] at h ⊢; exact whileS_more n k E2 S2 h
        | cnt E2 S2 => simp only [eb] at h ⊢; exact whileS_more n k E2 S2 h
        | _ => simp only [eb]
theorem sWhile_eq {t : FB} {b : FS} {n : Nat} {E : Ev} {S : Sto} (h : whileS t b n E S ≠ .bad) : sWhile t b E S = whileS t b n E S := by
  unfold sWhile
  have ex : ∃ n, whileS t b n E S ≠ .bad := ⟨n, h⟩
  rw [dif_pos ex]
  have h2 := ex.choose_spec
  rcases Nat.le_total ex.choose n with z | z
  · obtain ⟨k, e⟩ := Nat.le.dest z
    rw [← whileS_more _ k E S h2, e]
  · obtain ⟨k, e⟩ := Nat.le.dest z
    have := whileS_more n k E S h
    rw [e] at this
    exact this
theorem s_while {c : Expr} {body : List Stmt} {t : FB} {b : FS} (hp : PassesOwn (model X.prog X.w) X.A X.env X.xe) (hc : PT X c (tT X.K W t)) (hb : PSs X body (tS X.K W b)) : PS X (.While c body [] pos) (tS X.K W (sWhile t b)) := by
  refine ⟨fun pins s σ H D I h => (ps_while hp hc hb).run pins s σ H D I ?_⟩
  obtain ⟨m, E, S, re, rs, q⟩ := h
  unfold sWhile at q
  by_cases ex : ∃ n, whileS t b n E S ≠ .bad
  · rw [dif_pos ex] at q
    refine ⟨fun mm σ' H' => ∃ m' E' S', RE X.K H' m' E' σ' ∧ RS X.K H' m' S' ∧ PQ X.K W H' m' (whileS t b mm E' S') D, ⟨_, m, E, S, re, rs, q⟩, ?_⟩
    rintro mm σ' H' ⟨m', E', S', re', rs', q'⟩
    cases mm with
    | zero => exact q'.elim
    | succ n =>
      unfold whileS at q'
      refine (tT.stm (k := fun E c S1 => if c then (match b E S1 with
        | .nx E2 S2 => whileS t b n E2 S2
        | .cnt E2 S2 => whileS t b n E2 S2
        | .brk E2 S2 => .nx E2 S2
        | x => x) else .nx E S1) ⟨m', E', S', re', rs', q'⟩).mono fun cb H2 ⟨m2, E2, S2, re2, rs2, q2⟩ => ?_
      cases cb with
      | false => exact iteF (q2 H2 m2 σ' Le.refl re2 rs2)
      | true =>
        refine iteT ⟨fun σ3 H3 => ∃ m3 E3 S3, RE X.K H3 m3 E3 σ3 ∧ RS X.K H3 m3 S3 ∧ PQ X.K W H3 m3 (whileS t b n E3 S3) D, fun σ3 H3 z => ⟨n, Nat.lt_succ_self n, z⟩, ?_⟩
        refine ⟨m2, E2, S2, re2, rs2, ?_⟩
        simp only [if_true] at q2
        cases eb : b E2 S2 with
        | nx E3 S3 => rw [eb] at q2; exact fun H3 m3 σ3 l3 re3 rs3 => ⟨m3, E3, S3, re3, rs3, PQ.re l3 q2⟩
        | cnt E3 S3 => rw [eb] at q2; exact fun H3 m3 σ3 l3 re3 rs3 => ⟨m3, E3, S3, re3, rs3, PQ.re l3 q2⟩
        | brk E3 S3 => rw [eb] at q2; exact q2
        | ret d3 S3 => rw [eb] at q2; exact q2
        | exc c fs E3 S3 => rw [eb] at q2; exact q2
        | bad => rw [eb] at q2; exact q2
  · rw [dif_neg ex] at q; exact q.elim
end

/-! ## list comprehensions of one clause -/
def wipeE (E : Ev) : List Nat → Ev
  | [] => E
  | v :: vs => (wipeE E vs).set v none
theorem RE.wipe {K H m E σ} (h : RE K H m E σ) : ∀ vs : List Nat, RE K H m (wipeE E vs) (L2.wipe σ vs)
  | [] => h
  | v :: vs => (RE.wipe h vs).unset v
def bTrue : FB := fun _ S => .ok true S
/-- the items' turns: the new list is cell n -/
noncomputable def lcS (p : Pat) (t : FB) (e : FE) (src : Src) (all : List D) (n : Nat) (E0 : Ev) : List D → Sto → Res
  | [], S => srcIf src all S (.ok (.ref n) S) .bad
  | d :: r, S => srcIf src all S (match p.put d E0 with
    | none => .bad
    | some E1 => (match t E1 S with
      | .ok true S2 => (match e E1 S2 with
        | .ok y S3 => (match S3[n]? with
          | some (.lst acc) => if acc.length < 100000 then lcS p t e src all n E0 r (S3.set n (.lst (acc ++ [y]))) else .bad
          | _ => .bad)
        | _ => .bad)
      | .ok false S2 => lcS p t e src all n E0 r S2
      | _ => .bad)) .bad
noncomputable def vLc (it : FI) (p : Pat) (own : List Nat) (t : FB) (e : FE) : FE := fun E S => match it E S with
  | .ok ds src S1 => lcS p t e src ds S1.length (wipeE E own) ds (S1 ++ [.lst []])
  | .exc c fs S1 => .exc c fs S1
  | .bad => .bad
abbrev wNo : WX := fun _ _ _ _ => False
section
variable {X : Cx} {W : WX} {pos : Pos}
theorem ts_nil : PTs X [] (fun _ H Q => Q true H) := pts_nil
/-- no test, or one -/
def TsOk (X : Cx) (ifs : List Expr) (t : FB) (tt : TT) : Prop := PTs X ifs tt ∧ ∀ σ H Q, tT X.K wNo t σ H Q → tt σ H Q
theorem srcOk_push {src : Src} {ds : List D} {S : Sto} {c : Cell} (h : srcOk src ds S) : srcOk src ds (S ++ [c]) := fun p hp => by
  have e := h p hp
  rw [List.getElem?_append_left (List.getElem?_eq_some_iff.mp e).1]
  exact e
theorem e_lc {elt tg iter : Expr} {ifs : List Expr} {scope : Scope} {own : List (Str × Nat)} {it : FI} {p : Pat} {g : TG} {t : FB} {tt : TT} {e : FE} (hc : X.calm = true) (hN : X.N.Nodup) (hi : PI X tg iter (tI X.K W it)) (ok : BlkOk X.N X.env.scope scope own)
    (hg : ∀ (s : Shared) (H : Hp) (C : Addr) (cl : List (Str × Addr)) (fp : List Addr), PG (X.blk s H scope (compEnvC scope cl C X.env) fp) tg g) (hgp : GP X.K p g) (hown : ∀ i ∈ p.slots, i ∈ own.map (·.2))
    (ht : ∀ (s : Shared) (H : Hp) (C : Addr) (cl : List (Str × Addr)) (fp : List Addr), PTs (X.blk s H scope (compEnvC scope cl C X.env) fp) ifs tt) (htt : ∀ σ H Q, tT X.K wNo t σ H Q → tt σ H Q)
    (he : ∀ (s : Shared) (H : Hp) (C : Addr) (cl : List (Str × Addr)) (fp : List Addr), PE (X.blk s H scope (compEnvC scope cl C X.env) fp) elt (tE X.K wNo e)) (hs : ∀ x, foldedSetIterable iter X.env x = pure x := by intro _; rfl) :
    PE X (.ListComp elt [⟨tg, iter, ifs, 0⟩] scope pos) (tE X.K W (vLc it p (own.map (·.2)) t e)) := by
  refine ⟨fun pins s σ H Q I h => (pe_lc hc hN hi ok hg ht he hs).run pins s σ H Q I ?_⟩
  exact lc_read h hgp hown htt
where
  lc_read {K : PySem.W.Frag} {W : WX} {it : FI} {p : Pat} {g : TG} {t : FB} {tt : TT} {e : FE} {own : List Nat} {σ : L2.St} {H : Hp} {Q : VK} (h : tE K W (vLc it p own t e) σ H Q) (hgp : GP K p g) (hown : ∀ i ∈ p.slots, i ∈ own)
      (htt : ∀ σ H Q, tT K wNo t σ H Q → tt σ H Q) : tLc (tI K W it) g tt (tE K wNo e) own σ H Q := by
    obtain ⟨m, E, S, re, rs, q⟩ := h
    refine ⟨m, E, S, re, rs, ?_⟩
    unfold vLc at q
    cases ei : it E S with
    | exc c fs S1 => rw [ei] at q; exact q
    | bad => rw [ei] at q; exact q
    | ok ds src S1 =>
      rw [ei] at q
      intro H1 m1 J l1 rs1 so wk D0 hD0
      have q1 := PV.re l1 q
      dsimp only at q1
      obtain ⟨l2, rs2⟩ := rs1.alloc (ds := []) (vs := []) hD0 .nil
      have q2 := PV.re l2 q1
      have hn : (m1 ++ [D0])[S1.length]? = some D0 := by rw [← rs1.len]; simp
      refine ⟨fun i mm H' => mm = ds.length - i ∧ i ≤ ds.length ∧ ∃ m' S', Le K H1 m1 H' m' ∧ m'[S1.length]? = some D0 ∧ RE K H' m' E σ ∧ RS K H' m' S' ∧ PV K W H' m' σ (lcS p t e src ds S1.length (wipeE E own) (ds.drop i) S') Q,
        ⟨_, rfl, Nat.zero_le _, _, _, l2, hn, (re.up l1).up l2, rs2, by simpa using q2⟩, ?_⟩
      rintro i mm H' ⟨rfl, hi, m', S', l', hn', re', rs', q'⟩
      by_cases hlt : i < ds.length
      · rw [List.drop_eq_getElem_cons hlt] at q'
        unfold lcS at q'
        obtain ⟨so', q''⟩ := srcIf_split (P := fun r => PV K W H' m' σ r Q) q' (fun z => z)
        obtain ⟨w1, w2, w3⟩ := wk H' m' S' l' rs' so'
        refine .inr ⟨w1 i hlt, fun H'' => ∃ m'' S'', Le K H1 m1 H'' m'' ∧ m''[S1.length]? = some D0 ∧ RE K H'' m'' E σ ∧ RS K H'' m'' S'' ∧ PV K W H'' m'' σ (lcS p t e src ds S1.length (wipeE E own) (ds.drop (i + 1)) S'') Q,
          fun H'' ⟨m'', S'', a1, a2, a3, a4, a5⟩ => ⟨ds.length - (i + 1), by omega, rfl, hlt, m'', S'', a1, a2, a3, a4, a5⟩, fun x H2 y => ?_⟩
        obtain ⟨m2, d, l2, rs2, ed, rd⟩ := w3 i x H2 hlt y
        have ed2 : ds[i] = d := by
          rw [List.getElem?_eq_getElem hlt] at ed
          exact Option.some.inj ed
        rw [ed2] at q''
        cases ep : p.put d (wipeE E own) with
        | none => simp only [ep] at q''; exact q''.elim
        | some E2 =>
          simp only [ep] at q''
          refine hgp d x _ H2 m2 _ E2 _ rd (RE.wipe (re'.up l2) own) ep fun σ2 re2 fits => ⟨?_, ?_⟩
          · rw [fits own hown, wipe_twice]
          · have q3 := PV.re l2 q''
            refine htt σ2 H2 _ ⟨m2, E2, S', re2, rs2, ?_⟩
            cases et : t E2 S' with
            | exc c fs S3 => rw [et] at q3; exact q3.elim
            | bad => rw [et] at q3; exact q3.elim
            | ok bt S3 =>
              rw [et] at q3
              intro H3 m3 l3 rs3
              have q4 := PV.re l3 q3
              cases bt with
              | false => exact iteF ⟨m3, S3, (l'.trans l2).trans l3, l3.m _ _ (l2.m _ _ hn'), (re'.up l2).up l3, rs3, q4⟩
              | true =>
                refine iteT ⟨m3, E2, S3, re2.up l3, rs3, ?_⟩
                dsimp only at q4
                cases ee : e E2 S3 with
                | exc c fs S4 => simp only [ee] at q4; exact q4.elim
                | bad => simp only [ee] at q4; exact q4.elim
                | ok y S4 =>
                  simp only [ee] at q4
                  intro H4 m4 vy l4 rs4 ry
                  have hn4 : m4[S1.length]? = some D0 := l4.m _ _ (l3.m _ _ (l2.m _ _ hn'))
                  cases ec : S4[S1.length]? with
                  | none => simp only [ec] at q4; exact q4.elim
                  | some c =>
                    cases c with
                    | lst acc =>
                      simp only [ec] at q4
                      by_cases hz : acc.length < 100000
                      · rw [if_pos hz] at q4
                        obtain ⟨a', vs, e1, h1, h2, h3⟩ := rs4.list ec (.ref hn4)
                        cases e1
                        obtain ⟨l5, rs5⟩ := rs4.write ec hn4 h2 (h3.app (.cons ry .nil))
                        refine ⟨vs, h2, by rw [← h3.len]; exact Nat.lt_trans hz (by decide), ?_⟩
                        have l6 := ((l'.trans l2).trans l3).trans (l4.trans l5)
                        exact ⟨m4, _, l6, hn4, (((re'.up l2).up l3).up l4).up l5, rs5, PV.re (l4.trans l5) q4⟩
                      · rw [if_neg hz] at q4; exact q4.elim
                    | _ => simp only [ec] at q4; exact q4.elim
      · have e0 : i = ds.length := by omega
        subst e0
        rw [List.drop_length] at q'
        unfold lcS at q'
        obtain ⟨so', q''⟩ := srcIf_split (P := fun r => PV K W H' m' σ r Q) q' (fun z => z)
        obtain ⟨w1, w2, w3⟩ := wk H' m' S' l' rs' so'
        exact .inl ⟨w2, q'' H' m' _ Le.refl rs' (.ref hn')⟩
end
end Z
namespace Z
open PySem PySem.Spec PyProof.Rows L2

/-! ## classes -/
inductive CK where
  | ty (n : String)
  | own (c : Str)
  deriving DecidableEq
def ckV (K : PySem.W.Frag) : CK → Value
  | .ty n => .type n
  | .own c => .ref (He.ga K c)
/-- told answers of isinstance beyond the language's own classes -/
abbrev Tab := List ((CK × CK) × Bool)
def isOf (tab : Tab) (t c : CK) : Option Bool := match t, c with
  | .ty a, .ty b => kitB a b
  | _, _ => tab.lookup (t, c)
def isAny (tab : Tab) (t : CK) : List CK → Option Bool
  | [] => some false
  | c :: r => match isOf tab t c with
    | some true => some true
    | some false => isAny tab t r
    | none => none
/-- checked of the written part -/
def tabB (K : PySem.W.Frag) (tab : Tab) : Bool := tab.all fun p => decide (PySem.W.kitOne K (ckV K p.1.1) (ckV K p.1.2) = some p.2)
theorem tab_mem {k : CK × CK} {b : Bool} : ∀ {tab : Tab}, tab.lookup k = some b → (k, b) ∈ tab
  | [], h => by cases h
  | (k', b') :: r, h => by
    rw [List.lookup_cons] at h
    by_cases e : k == k'
    · simp only [e] at h
      cases h
      have e' : k = k' := by simpa using e
      rw [e']
      exact List.mem_cons_self
    · simp only [e] at h
      exact List.mem_cons_of_mem _ (tab_mem h)
theorem isOf_ok {K : PySem.W.Frag} {tab : Tab} (h : tabB K tab = true) {t c : CK} {b : Bool} (e : isOf tab t c = some b) : PySem.W.kitOne K (ckV K t) (ckV K c) = some b := by
  have key : tab.lookup (t, c) = some b → PySem.W.kitOne K (ckV K t) (ckV K c) = some b := by
    intro e
    unfold tabB at h
    rw [List.all_eq_true] at h
    have hm := tab_mem e
    exact of_decide_eq_true (h _ hm)
  cases t with
  | ty a =>
    cases c with
    | ty b' => exact kit_ty e
    | own _ => exact key e
  | own _ => exact key e
theorem isAny_ok {K : PySem.W.Frag} {tab : Tab} (h : tabB K tab = true) {t : CK} : ∀ {cs : List CK} {b : Bool}, isAny tab t cs = some b → PySem.W.kitAny K (ckV K t) (cs.map (ckV K)) = some b
  | [], b, e => by simp [isAny] at e; subst e; rfl
  | c :: r, b, e => by
    unfold isAny at e
    cases q : isOf tab t c with
    | none => simp [q] at e
    | some b0 =>
      have h1 := isOf_ok h q
      cases b0 with
      | true => simp [q] at e; subst e; exact kitAny_cons h1 (fun z => by cases z) (fun _ => rfl)
      | false => simp only [q] at e; exact kitAny_cons h1 (fun _ => isAny_ok h e) (fun z => by cases z)
/-- what is asked of an exception class of the text -/
def excB (K : PySem.W.Frag) (c : Str) : Bool :=
  (PySem.W.clsIn K (He.ga K c)).isSome && decide (PySem.W.findIn K (.ref (He.ga K c)) "__getattribute__" = some (some (.builtin "BaseException.__getattribute__"))) &&
  decide (PySem.W.findIn K (.ref (He.ga K c)) "__getattr__" = some none) && decide (PySem.W.subIn K (.ref (He.ga K c)) (.type "BaseException") = some true) &&
  decide (PySem.W.findIn K (.ref (He.ga K c)) "__class__" = some (some (.builtin "object.__class__"))) && decide (PySem.W.mroIn K (He.ga K c) (.type "object") = some true) && PySem.W.hasDictIn K (He.ga K c) &&
  decide (PySem.W.typeIn K (.ref (He.ga K c)) = some (.type "type")) && PySem.W.keepIn K (.ref (He.ga K c))
/-- .. of the language's own descriptor -/
def dscB (K : PySem.W.Frag) : Bool := decide (PySem.W.specialIn K (.builtin "object.__class__") "__get__" = some (some (.builtin "getset_descriptor.__get__"))) && decide (PySem.W.takesIn K (.builtin "object.__class__") = some true)
structure ExcF (K : PySem.W.Frag) (c : Str) : Prop where
  cls : (PySem.W.clsIn K (He.ga K c)).isSome = true
  ga : PySem.W.findIn K (.ref (He.ga K c)) "__getattribute__" = some (some (.builtin "BaseException.__getattribute__"))
  gg : PySem.W.findIn K (.ref (He.ga K c)) "__getattr__" = some none
  sub : PySem.W.subIn K (.ref (He.ga K c)) (.type "BaseException") = some true
  cl : PySem.W.findIn K (.ref (He.ga K c)) "__class__" = some (some (.builtin "object.__class__"))
  mro : PySem.W.mroIn K (He.ga K c) (.type "object") = some true
  hd : PySem.W.hasDictIn K (He.ga K c) = true
  ty : PySem.W.typeIn K (.ref (He.ga K c)) = some (.type "type")
  kp : PySem.W.keepIn K (.ref (He.ga K c)) = true
theorem excB_ok {K : PySem.W.Frag} {c : Str} (h : excB K c = true) : ExcF K c := by
  unfold excB at h
  simp only [Bool.and_eq_true, decide_eq_true_eq] at h
  obtain ⟨⟨⟨⟨⟨⟨⟨⟨h1, h2⟩, h3⟩, h4⟩, h5⟩, h6⟩, h7⟩, h8⟩, h9⟩ := h
  exact ⟨h1, h2, h3, h4, h5, h6, h7, h8, h9⟩
/-- a value's class -/
def tyC (d : D) (S : Sto) : Option CK := match d with
  | .non => some (.ty "NoneType")
  | .bl _ => some (.ty "bool")
  | .int _ => some (.ty "int")
  | .str _ => some (.ty "str")
  | .tup _ => some (.ty "tuple")
  | .fl _ => some (.ty "list")
  | .emp => some (.ty "dict")
  | .ref n => (match S[n]? with
    | some (.lst _) => some (.ty "list")
    | some (.exc c _) => some (.own c)
    | _ => none)
def gIsi (tab : Tab) (cs : List CK) (d : D) (S : Sto) : Res := match tyC d S with
  | some t => (match isAny tab t cs with
    | some b => .ok (.bl b) S
    | none => .bad)
  | none => .bad
/-- the classes whose values may be asked -/
structure ClsOk (K : PySem.W.Frag) (tab : Tab) : Prop where
  tb : tabB K tab = true
  ds : dscB K = true
  ex : ∀ c k b, tab.lookup (.own c, k) = some b → ExcF K c
section
variable {X : Cx} {W : WX} {pos p : Pos}
theorem exc_inst {pins : List (Addr × Obj)} {σ : L2.St} {H : Hp} {s : Shared} {a : Addr} {c : Str} {dd : Option Addr} (I : Inv X pins σ H s) (h : H a = some (exv (.ref (He.ga X.K c)) dd a)) (hd : ∀ d, dd = some d → ∃ gs, H d = some (.xd gs)) :
    ∃ oe od, PySem.W.InstAt s.heap a oe (He.ga X.K c) od ∧ ((dd = none ∧ od = none) ∨ ∃ d o, dd = some d ∧ od = some o ∧ s.heap.get? d = some o) := by
  obtain ⟨⟨oe, vs, ho, hz, hv⟩, _, _⟩ := I.hok a _ h
  have nc : PySem.W.notCls oe = true := by unfold PySem.W.notCls; rw [hv] <;> rfl
  cases dd with
  | none => exact ⟨oe, none, ⟨ho, hz.1, nc, by rw [hz.2]; trivial⟩, .inl ⟨rfl, rfl⟩⟩
  | some d =>
    obtain ⟨gs, hg⟩ := hd d rfl
    have hx : ObjOk X.prog X.w H s.heap d (.xd gs) := I.hok d _ hg
    obtain ⟨mA, hns, hr⟩ := hx
    obtain ⟨od, hod, hl⟩ := lookIn_ns hns
    exact ⟨oe, some od, ⟨ho, hz.1, nc, by rw [hz.2]; exact hod⟩, .inr ⟨d, od, rfl, rfl, hod⟩⟩
theorem exc_there {K : PySem.W.Frag} {H : Hp} {m : List Addr} {S : Sto} {n : Nat} {c : Str} {fs : List (Str × D)} {v : V} (rs : RS K H m S) (e : S[n]? = some (.exc c fs)) (r : RV K H m (.ref n) v) :
    ∃ a dd, v = .ref a ∧ H a = some (exv (.ref (He.ga K c)) dd a) ∧ ((fs = [] ∧ dd = none) ∨ ∃ d gs, dd = some d ∧ H d = some (.xd gs) ∧ RFs K H m fs gs) := by
  cases r with
  | ref hm =>
    obtain ⟨a, h1, dd, h2, h3⟩ := rs.at_ n _ e
    rw [hm] at h1
    cases h1
    exact ⟨_, dd, rfl, h2, h3.2⟩
/-- what isinstance asks of such a value -/
theorem kitD {pins : List (Addr × Obj)} {σ : L2.St} {H : Hp} {s : Shared} {m : List Addr} {S : Sto} {d : D} {x : V} {u : Value} {t : CK} {tab : Tab} {k : CK} {b : Bool} (CO : ClsOk X.K tab) (I : Inv X pins σ H s) (rs : RS X.K H m S) (rd : RV X.K H m d x) (rx : RelV x u) (ht : tyC d S = some t) (hk : isOf tab t k = some b) :
    ∃ P : Heap → Prop, PySem.W.KitX X.K u (ckV X.K t) P ∧ P s.heap ∧ u ≠ .builtin "__main__.__loader__#opaque" := by
  have lcase : ∀ {a : Addr} {vs : List V}, SqL X.K H a vs → TyX X.K H (.ref a) (.type "list") := by
    intro a vs h
    rcases h with (h | ⟨o, h⟩) | ⟨o, its, n, h1, h2, _⟩
    · exact .base (.lst h)
    · exact .base (.frz h)
    · exact .kList h1 h2
  cases rd with
  | non => cases ht; exact kit_of I rx (.base .non)
  | bl b => cases ht; exact kit_of I rx (.base (.bl b))
  | int b => cases ht; exact kit_of I rx (.base (.int b))
  | str b => cases ht; exact kit_of I rx (.base (.str b))
  | tup h1 h2 =>
    cases ht
    rcases h1 with (h | ⟨o, h⟩) | ⟨o, its, n, h1, h2, _⟩
    · exact kit_of I rx (.base (.tup h))
    · exact kit_of I rx (.fTuple h)
    · exact kit_of I rx (.kTuple h1 h2)
  | fl h1 h2 => cases ht; exact kit_of I rx (lcase h1.sq)
  | emp h1 => cases ht; exact kit_of I rx (.base (.dK h1))
  | ref h1 =>
    rename_i n a
    cases e : S[n]? with
    | none => simp [tyC, e] at ht
    | some c =>
      cases c with
      | lst xs =>
        simp only [tyC, e, Option.some.injEq] at ht
        subst ht
        obtain ⟨a', vs, e1, q2, q3, q4⟩ := rs.list e (.ref h1)
        cases e1
        exact kit_of I rx (lcase (SqL.of q3))
      | exc c fs =>
        simp only [tyC, e, Option.some.injEq] at ht
        subst ht
        obtain ⟨a', dd, e1, q2, q3⟩ := exc_there rs e (.ref h1)
        cases e1
        cases rx
        have hd : ∀ d, dd = some d → ∃ gs, H d = some (.xd gs) := fun d z => by
          rcases q3 with ⟨_, q⟩ | ⟨d', gs, q, q5, _⟩
          · rw [q] at z; cases z
          · rw [q] at z; cases z; exact ⟨gs, q5⟩
        obtain ⟨oe, od, J, _⟩ := exc_inst I q2 hd
        have F := CO.ex c k b (by
          cases k with
          | ty _ => exact hk
          | own _ => exact hk)
        have ds := CO.ds
        unfold dscB at ds
        simp only [Bool.and_eq_true, decide_eq_true_eq] at ds
        exact ⟨_, PySem.W.kitx_exc (ox := oe) (od := od) F.cls F.ga F.gg F.sub F.cl ds.1 ds.2 F.mro, J, fun z => nomatch z⟩
      | ins c fs => simp [tyC, e] at ht
theorem gIsi_at {tab : Tab} {cs : List CK} {d : D} {S : Sto} {K : PySem.W.Frag} {H : Hp} {m : List Addr} {σ : L2.St} {Q : VK} (p : PV K W H m σ (gIsi tab cs d S) Q) : ∃ t b, tyC d S = some t ∧ isAny tab t cs = some b ∧ PV K W H m σ (.ok (.bl b) S) Q := by
  unfold gIsi at p
  cases e : tyC d S with
  | none => simp only [e] at p; exact p.elim
  | some t =>
    simp only [e] at p
    cases e2 : isAny tab t cs with
    | none => simp only [e2] at p; exact p.elim
    | some b => simp only [e2] at p; exact ⟨t, b, rfl, e2, p⟩
/-- isinstance(e, C) -/
theorem e_isi {a c : Expr} {f : FE} {tab : Tab} {k : CK} {cv : V} (CO : ClsOk X.K tab) (hg : Gl X "isinstance") (hm : X.mg "isinstance" = none) (ha : PE X a (tE X.K W f)) (hc : PE X c (tC cv)) (hcv : ∀ u, RelV cv u → u = ckV X.K k) (h2 : starEach (a :: [c]) X.env = (false, eval a X.env) :: starEach [c] X.env := by rfl)
    (h3 : starEach (c :: []) X.env = (false, eval c X.env) :: starEach [] X.env := by rfl) (h4 : (backTo pos (starEach [c] X.env)).any (·.1) = false := by rfl) :
    PE X (.Call (.Name "isinstance" p) [a, c] [] pos) (tE X.K W (vUn (gIsi tab [k]) f)) := by
  have hr : CallR X (.builtin "isinstance") (fun vs H Q => ∃ x m S d σ, vs = [x, cv] ∧ RS X.K H m S ∧ RV X.K H m d x ∧ PV X.K W H m σ (gIsi tab [k] d S) Q) := by
    intro pins s σ H xs us Q I r ⟨x, m, S, d, σ', e0, rs, rd, p⟩
    subst e0
    obtain ⟨u1, u2, rfl, r1, r2⟩ := Vals.two r
    obtain ⟨t, b, ht, hb, q⟩ := gIsi_at p
    have hb1 : isOf tab t k = some b := by
      unfold isAny at hb
      cases e : isOf tab t k with
      | none => simp [e] at hb
      | some b0 => cases b0 <;> simp [e, isAny] at hb <;> rw [hb]
    obtain ⟨P, Z, pz, hx⟩ := kitD CO I rs rd r1 ht hb1
    rw [hcv u2 r2]
    exact PySem.W.kia_one Z I.kIn pz (isOf_ok CO.tb hb1) hx fun tk => ⟨.bl b, H, I.tok tk, rfl, q H m _ Le.refl rs (.bl b)⟩
  refine ⟨fun pins s σ H Q I h => (pe_callB hr hg hm (by decide +kernel) (pa_cons ha (pa_cons hc pa_nil h3) h2) (he := h2) (hpl := h4)).run pins s σ H Q I ?_⟩
  exact (tE.then (k := fun _ d S1 => gIsi tab [k] d S1) h).mono fun v H1 ⟨m, E, S, d, re, rs, rv, q⟩ => ⟨v, m, S, d, σ, rfl, rs, rv, q⟩
/-- isinstance(e, (C1, C2, ..)) -/
theorem e_isiT {a : Expr} {cs : List Expr} {f : FE} {tab : Tab} {ks : List CK} {cvs : List V} {kk tp} {tcs : TA} (CO : ClsOk X.K tab) (hne : ks ≠ []) (hg : Gl X "isinstance") (hm : X.mg "isinstance" = none) (ha : PE X a (tE X.K W f)) (hc : PA X cs tcs) (htc : ∀ σ H Q, Q cvs H → tcs σ H Q) (hz : cvs.length ≤ 100) (hcv : ∀ us, Vals cvs us → us = ks.map (ckV X.K))
    (h2 : starEach (a :: [.Tuple cs kk tp]) X.env = (false, eval a X.env) :: starEach [.Tuple cs kk tp] X.env := by rfl)
    (h3 : starEach (.Tuple cs kk tp :: []) X.env = (false, eval (.Tuple cs kk tp) X.env) :: starEach [] X.env := by rfl) (h4 : (backTo pos (starEach [.Tuple cs kk tp] X.env)).any (·.1) = false := by rfl) :
    PE X (.Call (.Name "isinstance" p) [a, .Tuple cs kk tp] [] pos) (tE X.K W (vUn (gIsi tab ks) f)) := by
  have hr : CallR X (.builtin "isinstance") (fun vs H Q => ∃ x q m S d σ, vs = [x, .ref q] ∧ H q = some (.tup cvs) ∧ RS X.K H m S ∧ RV X.K H m d x ∧ PV X.K W H m σ (gIsi tab ks d S) Q) := by
    intro pins s σ H xs us Q I r ⟨x, tq, m, S, d, σ', e0, hq, rs, rd, p⟩
    subst e0
    obtain ⟨u1, u2, rfl, r1, r2⟩ := Vals.two r
    cases (show u2 = Value.ref tq from r2)
    obtain ⟨t, b, ht, hb, q⟩ := gIsi_at p
    obtain ⟨k0, b0, hb0⟩ : ∃ k0 b0, isOf tab t k0 = some b0 := by
      cases ks with
      | nil => exact absurd rfl hne
      | cons k0 r =>
        unfold isAny at hb
        cases e : isOf tab t k0 with
        | none => simp [e] at hb
        | some b0 => exact ⟨k0, b0, e⟩
    obtain ⟨P, Z, pz, hx⟩ := kitD CO I rs rd r1 ht hb0
    obtain ⟨_, its, rv, o, h1, h2, n, h3⟩ := (show ObjOk X.prog X.w H s.heap tq (.tup cvs) from I.hok tq _ hq)
    have e3 := hcv _ rv
    subst e3
    obtain ⟨oc, od, dt, sl⟩ := o
    simp only at h2 h3
    subst h2 h3
    exact PySem.W.kia_tup Z I.kIn pz h1 (isAny_ok CO.tb hb) hx fun tk => ⟨.bl b, H, I.tok tk, rfl, q H m _ Le.refl rs (.bl b)⟩
  refine ⟨fun pins s σ H Q I h => (pe_callB hr hg hm (by decide +kernel) (pa_cons ha (pa_cons (pe_tup hc) pa_nil h3) h2) (he := h2) (hpl := h4)).run pins s σ H Q I ?_⟩
  refine (tE.then (k := fun _ d S1 => gIsi tab ks d S1) h).mono fun v H1 ⟨m, E, S, d, re, rs, rv, q⟩ => ?_
  refine htc σ H1 _ ⟨Nat.le_trans hz (by decide), fun tq hq => ?_⟩
  have l1 : Le X.K H1 m (upd H1 tq (.tup cvs)) m := Le.new hq
  exact ⟨v, tq, m, S, d, σ, rfl, upd_same, rs.side hq, rv.up l1, PV.re l1 q⟩
/-- e.f, e an exception that a name holds -/
def gFld (cl : List Str) (f : Str) (d : D) (S : Sto) : Res := match d with
  | .ref n => (match S[n]? with
    | some (.exc c fs) => if c ∈ cl then (match fs.lookup f with
      | some y => .ok y S
      | none => .bad) else .bad
    | _ => .bad)
  | _ => .bad
theorem RFs.look {K H m} {fs : List (Str × D)} {gs : List (Str × V)} {f : Str} {d : D} (h : RFs K H m fs gs) (e : fs.lookup f = some d) : ∃ v, gs.lookup f = some v ∧ RV K H m d v := by
  induction h with
  | nil => cases e
  | cons r t ih =>
    rename_i p q l1 l2
    obtain ⟨k, d'⟩ := p
    obtain ⟨k', v'⟩ := q
    obtain ⟨r1, r2⟩ := r
    dsimp only at r1 r2
    subst r1
    rw [List.lookup_cons] at e ⊢
    by_cases z : f == k
    · simp only [z] at e ⊢
      cases e
      exact ⟨v', rfl, r2⟩
    · simp only [z] at e ⊢
      exact ih e
theorem e_xf {e : Expr} {f : Str} {fe : FE} {cl : List Str} (hF : ∀ c ∈ cl, ExcF X.K c ∧ PySem.W.findIn X.K (.ref (He.ga X.K c)) f = some none) (he : PE X e (tE X.K W fe)) (hb : attributeBase e f X.env (eval e X.env) = eval e X.env := by rfl) :
    PE X (.Attribute e f pos) (tE X.K W (vUn (gFld cl f) fe)) := by
  refine ⟨fun pins s σ H Q I h => ?_⟩
  refine attr_of hb (thn (he.run pins s σ H _ I (tE.then (k := fun _ d S1 => gFld cl f d S1) h)) fun u s1 ⟨x, H1, I1, rx, m, E, S, d, re, rs, rd, q⟩ => ?_)
  cases rd with
  | ref h1 =>
    rename_i n a
    simp only [gFld] at q
    cases ec : S[n]? with
    | none => simp only [ec] at q; exact q.elim
    | some c =>
      cases c with
      | exc c fs =>
        simp only [ec] at q
        by_cases hc : c ∈ cl
        · rw [if_pos hc] at q
          cases el : fs.lookup f with
          | none => simp only [el] at q; exact q.elim
          | some y =>
            simp only [el] at q
            obtain ⟨F, hno⟩ := hF c hc
            obtain ⟨a', dd, e1, q2, q3⟩ := exc_there rs ec (.ref h1)
            cases e1
            cases rx
            rcases q3 with ⟨z, _⟩ | ⟨dx, gs, rfl, hx, rf⟩
            · subst z; cases el
            · obtain ⟨v, hv, rv⟩ := rf.look el
              obtain ⟨oe, od, J, J2⟩ := exc_inst I1 q2 (fun d z => by cases z; exact ⟨gs, hx⟩)
              have ox : ObjOk X.prog X.w H1 s1.heap dx (.xd gs) := I1.hok dx _ hx
              obtain ⟨mA, hns, hr⟩ := ox
              obtain ⟨od', ho, hl⟩ := lookIn_ns hns
              obtain ⟨u, hu, ru⟩ := RelO.some_of (v := v) (o := mA f) (by rw [← hv]; exact hr f)
              have eo : od = some od' := by
                rcases J2 with ⟨z, _⟩ | ⟨d2, o2, z1, z2, z3⟩
                · cases z
                · cases z1
                  rw [z3] at ho
                  cases ho
                  exact z2
              subst eo
              exact PySem.HandSPX.exc_get I1.kIn J F.ga F.gg F.sub (PySem.W.findObj_own F.hd hno rfl (by rw [hl, hu])) (handed_of ru) ⟨v, H1, I1.tok _, ru, q H1 m v Le.refl rs rv⟩
        · rw [if_neg hc] at q; exact q.elim
      | _ => simp only [ec] at q; exact q.elim
  | _ => exact q.elim
end
end Z
namespace Z
open PySem PySem.Spec PyProof.Rows L2

/-! ## an exception that is caught becomes a value -/
theorem Inv_track {X : Cx} {pins : List (Addr × Obj)} {σ : L2.St} {H : Hp} {s : Shared} {a : Addr} {o : HO} (I : Inv X pins σ H s) (na : H a = none) (n0 : X.s_0.heap.get? a = none) (nL : a ≠ X.env.locals) (nC : ∀ x c, X.env.cells.lookup x = some c → c ≠ a)
    (nP : ∀ p ∈ X.pn ++ pins, p.1 ≠ a) (new : ObjOk X.prog X.w (upd H a o) s.heap a o) : Inv X pins σ (upd H a o) s := by
  have ne : ∀ {b u}, H b = some u → upd H a o b = some u := fun {b u} e => by rw [upd_ne (ne_of_none e na)]; exact e
  refine ⟨I.ok, I.os, I.bare, ⟨I.base.keep, I.base.slot, fun b ob e n hx => ?_, I.base.there, fun b xs e => ne (I.base.tups b xs e), fun b ob u e => ne (I.base.frzs b ob u e), fun b ps e => ?_⟩, I.loc, I.cell, ?_, fun x c e => ?_, fun p hp => ?_, fun b u e => ?_, I.len⟩
  · have nb : b ≠ a := fun z => by subst z; rw [n0] at e; cases e
    rw [upd_ne nb]
    exact I.base.free b ob e n hx
  · obtain ⟨more, q⟩ := I.base.tbls b ps e
    exact ⟨more, ne q⟩
  · rw [upd_ne (Ne.symm nL)]; exact I.free
  · rw [upd_ne (nC x c e)]; exact I.freeC x c e
  · obtain ⟨e, n, ne', nf, d⟩ := I.pin p hp
    exact ⟨e, by rw [upd_ne (nP p hp)]; exact n, ne', nf, d⟩
  · by_cases hb : b = a
    · subst hb
      rw [upd_same] at e
      cases e
      exact new
    · rw [upd_ne hb] at e
      exact (I.hok b u e).stay (fun c v _ q => q) (fun c q => ne q) fun c xs q => ne q
theorem fly_keeps {B h h' : Heap} {l : List Env} {a : Addr} {Z : Obj → Prop} (fl : PySem.HandSPX.FlyingZ B l a Z h) (k : ∀ b o, h.get? b = some o → h'.get? b = some o) : PySem.HandSPX.FlyingZ B l a Z h' := by
  obtain ⟨f1, f2, f3, oe, vs, T, oT, ts, e1, e2, e3, e4, e5, e6, e7, e8, e9⟩ := fl
  exact ⟨fun b o e => k b o (f1 b o e), f2, Heap.FunFrames.of_keeps (fun b o e _ => ⟨o, k b o e, rfl⟩) f3, oe, vs, T, oT, ts, k _ _ e1, e2, e3, e4, e5, e6, k _ _ e7, e8, e9⟩
/-- what an except clause asks: t is the class expression -/
def ExT (X : Cx) (t : Expr) (cls : Value) (b : Bool) : Prop := ∀ (a : Addr) (pn : List (Addr × Obj)) (s : Shared) (σ : L2.St) (H : Hp) (Q : Bool → Shared → Prop) (E : Value → Shared → Prop), Inv (X.suite a pn) [] σ H s → PySem.W.Looks (model X.prog X.w) s.heap (typeOf (.ref a)) cls →
  (∀ h' tk, (∀ q o, s.heap.get? q = some o → h'.get? q = some o) → Q b { s with heap := h', toks := tk }) →
  wpAny (model X.prog X.w) (X.A.mark (some (.ref a))) (eval t X.env) (fun c s1 => wpAny (model X.prog X.w) (X.A.mark (some (.ref a))) (excMatches (.ref a) c) Q E s1) E s
theorem name_at {X : Cx} {x : Str} {np : Pos} {c : Value} {a : Addr} {pn : List (Addr × Obj)} {s : Shared} {σ : L2.St} {H : Hp} {Q : Value → Shared → Prop} {E : Value → Shared → Prop} (n : Names X x c) (I : Inv (X.suite a pn) [] σ H s) (q : Q c s) : wpAny (model X.prog X.w) (X.A.mark (some (.ref a))) (eval (.Name x np) X.env) Q E s := by
  obtain ⟨hg, hdbg, hm | ⟨hm, hv, hnn⟩⟩ := n
  · exact ld_glob (X := X.suite a pn) I hg hm q hdbg
  · exact ld_blt (X := X.suite a pn) I hg hm hv q hnn hdbg
theorem ext1 {X : Cx} {x : Str} {np : Pos} {c cls : Value} {b : Bool} (n : Names X x c) (he : PySem.W.exmOne X.K cls c = some b) : ExT X (.Name x np) cls b := fun a pn s σ H Q E I LT q =>
  name_at n I ((PySem.W.exm_one (M := model X.prog X.w) I.kIn LT he).here (q s.heap s.toks fun _ _ z => z))
theorem ext2 {X : Cx} {x1 x2 : Str} {p1 p2 tp : Pos} {kk : Nat} {c1 c2 cls : Value} {b : Bool} (n1 : Names X x1 c1) (n2 : Names X x2 c2) (he : PySem.W.exmAny X.K cls [c1, c2] = some b) : ExT X (.Tuple [.Name x1 p1, .Name x2 p2] kk tp) cls b := fun a pn s σ H Q E I LT q => by
  refine wpAny_Tuple (wpAny_items_cons (name_at n1 I (wpAny_items_cons (name_at n2 I (wpAny_items_nil ⟨by size_fits, ?_⟩)))))
  have kp : ∀ q o, s.heap.get? q = some o → (s.heap.push { cls := .type "tuple", data := .seq [c1, c2].toArray }).get? q = some o := fun _ _ z => Heap.get?_push_of_some _ z
  exact (PySem.W.exm_tup2 (M := model X.prog X.w) (I.kIn.keeps kp) (LT.keeps kp) (Heap.get?_push_size s.heap rfl) he).here (q _ s.toks kp)

/-- which classes a clause takes: told for the exceptions that may come -/
def sTry (b : FS) (caught : Str → Option Bool) (i : Nat) (suite : FS) : FS := fun E S => match b E S with
  | .exc c fs E1 S1 => (match caught c with
    | some true => (match suite (E1.set i (some (.ref S1.length))) (S1 ++ [.exc c fs]) with
      | .nx E2 S2 => .nx (E2.set i none) S2
      | .brk E2 S2 => .brk (E2.set i none) S2
      | .cnt E2 S2 => .cnt (E2.set i none) S2
      | .ret d S2 => .ret d S2
      | _ => .bad)
    | some false => .exc c fs E1 S1
    | none => .bad)
  | r => r
section
variable {X : Cx} {W : WX} {n : Str} {i : Nat} {body suite : List Stmt} {b₀ : Stmt} {t : Expr} {pos pos' : Pos} {fb fs : FS} {caught : Str → Option Bool}
theorem s_try (hs : X.stack = X.env :: X.outer) (hf : X.env.frame = some X.env.locals) (hex : X.ex = []) (hN : X.N.Nodup) (hi : X.N[i]? = some n) (hln : X.env.kindOf n = some .local) (tk : Takes X W)
    (ht : ∀ c b, caught c = some b → ExT X t (.ref (He.ga X.K c)) b)
    (hb : ∀ (W' : WX) (pn : List (Addr × Obj)) (xe : Value → Shared → Prop), Takes (X.tr pn xe) W' → PassesOwn (model X.prog X.w) X.A X.env xe → PSs (X.tr pn xe) body (tS X.K W' fb))
    (hsu : ∀ (a : Addr) (pn : List (Addr × Obj)), PSs (X.suite a pn) (b₀ :: suite) (tS X.K wNo fs)) :
    PS X (.Try body [.ExceptHandler (some t) (some n) (b₀ :: suite) pos'] [] [] pos) (tS X.K W (sTry fb caught i fs)) := by
  refine ⟨fun pins s σ H D I h => ?_⟩
  have ok := I.ok
  have hfr : X.A.frames = some (X.env :: X.outer) := by rw [ok.frames, hs]
  have hloc : Loc X.env.scope n := .inl hln
  -- what the clause wishes of an exception
  let Wc : WX := fun cls d σ' H' => ∃ m' E' S' c gs, RE X.K H' m' E' σ' ∧ RS X.K H' m' S' ∧ RX X.K H' m' c gs cls d ∧ PQ X.K W H' m' (match caught c with
    | some true => (match fs (E'.set i (some (.ref S'.length))) (S' ++ [.exc c gs]) with
      | .nx E2 S2 => .nx (E2.set i none) S2
      | .brk E2 S2 => .brk (E2.set i none) S2
      | .cnt E2 S2 => .cnt (E2.set i none) S2
      | .ret d S2 => .ret d S2
      | _ => .bad)
    | some false => .exc c gs E' S'
    | none => .bad) D
  have hbody : tS X.K Wc fb D σ H := by
    obtain ⟨m, E, S, re, rs, q⟩ := h
    refine ⟨m, E, S, re, rs, ?_⟩
    unfold sTry at q
    cases e : fb E S with
    | exc c gs E1 S1 =>
      rw [e] at q
      exact fun H1 m1 σ1 cls dd l re1 rs1 rx => ⟨m1, E1, S1, c, gs, re1, rs1, rx, PQ.re l q⟩
    | nx E1 S1 => rw [e] at q; exact q
    | brk E1 S1 => rw [e] at q; exact q
    | cnt E1 S1 => rw [e] at q; exact q
    | ret d S1 => rw [e] at q; exact q
    | bad => rw [e] at q; exact q
  refine wpAny_Try_except (wpAny_mono ((hb Wc (X.pn ++ pins) (fun e s₁ => wpAny (model X.prog X.w) X.A (noteFrame e X.env) (fun _ s₂ => wpAny (model X.prog X.w) X.A (setFlight e none) (fun _ s₃ =>
    wpAny (model X.prog X.w) X.A (handleBy e X.env [.ExceptHandler (some t) (some n) (b₀ :: suite) pos']) (SP X pins D) X.xe s₃) X.xe s₂) X.xe s₁) (fun u s' xx => ?_) PassesOwn.looking).run [] s σ H D (I.toTry _) hbody) (fun f s1 hsp => ?_) (fun e s1 he => he))
  · obtain ⟨a, B, sI, pins', σ', H', cls, d, rfl, J', nb, up, sky, na, os, ag, m', E', S', c, gs, re', rs', rx', q⟩ := xx
    have J : Inv X pins σ' H' sI := J'.ofTry ok
    have sky' : Sky B (X.env :: X.outer) a (Zc cls d) X.env.locals s'.heap := by rw [← hs]; exact sky
    show wpAny (model X.prog X.w) X.A (noteFrame (.ref a) X.env) _ _ _
    refine Sky.land Zc.steady hfr hf sky' fun h3 fl3 up3 => ?_
    have J3 : Inv X pins σ' H' { s' with heap := h3 } := J.landed nb fl3.1 (up.trans up3) os ag
    obtain ⟨oe3, vs3, he3, hz3, hd3⟩ := fl3.there
    have nfr : a ∉ frs (X.env :: X.outer) := fun hm => by
      obtain ⟨_, o', e', hnf⟩ := fl3.2.2.1.mem hm
      rw [he3] at e'; cases e'
      exact hnf _ hd3
    have nL : a ≠ X.env.locals := fun z => nfr (List.mem_filterMap.mpr ⟨X.env, List.mem_cons_self, by rw [hf, z]⟩)
    have nF : a ∉ X.fs := fun hm => by
      obtain ⟨e, he, q⟩ := List.mem_filterMap.mp hm
      exact nfr (List.mem_filterMap.mpr ⟨e, List.mem_cons_of_mem _ he, q⟩)
    have nSI : sI.heap.get? a = none := by
      cases z : sI.heap.get? a with
      | none => rfl
      | some o =>
        have := nb a o z (by rw [hs]; exact nfr)
        rw [fl3.2.1] at this
        cases this
    have n0 : X.s_0.heap.get? a = none := by
      cases z : X.s_0.heap.get? a with
      | none => rfl
      | some o =>
        obtain ⟨o', q⟩ := J.base.there a o z (by rw [hex]; simp)
        rw [nSI] at q
        cases q
    have nC : ∀ x c, X.env.cells.lookup x = some c → c ≠ a := fun x c e z => by
      obtain ⟨v, o, ho, _⟩ := J.cell x c e
      rw [z, nSI] at ho
      cases ho
    have nP : ∀ p ∈ X.pn ++ pins, p.1 ≠ a := fun p hp z => by
      have := (J.pin p hp).1
      rw [z, nSI] at this
      cases this
    -- the context of the clause: nothing is pinned of the exception itself
    have toS : ∀ {h4 : Heap} {tk : Nat} {H4 : Hp} {σ4 : L2.St}, Inv X pins σ4 H4 { s' with heap := h4, toks := tk } → Inv (X.suite a (X.pn ++ pins)) [] σ4 H4 { s' with heap := h4, toks := tk } := fun {h4 tk H4 σ4} K4 =>
      ⟨K4.ok.suite _ _, K4.os, K4.bare, K4.base, K4.loc, K4.cell, K4.free, K4.freeC, fun p hp => K4.pin p (by rw [List.append_nil] at hp; exact hp), K4.hok, K4.len⟩
    refine wpAny_handleBy_cons (codeAny_handlers_test ?_) (by intro q; cases q)
    have LT : PySem.W.Looks (model X.prog X.w) h3 (typeOf (.ref a)) cls := fun A Q E s k q => wpAny_typeOf_ref (k _ _ he3) (by rw [hz3.1]; exact q)
    obtain ⟨ecls, _⟩ := rx'
    cases hc : caught c with
    | none => simp only [hc] at q; exact q.elim
    | some bc =>
    have hx := ht c bc hc
    rw [← ecls] at hx
    refine hx a (X.pn ++ pins) { s' with heap := h3 } σ' H' _ _ (toS (tk := s'.toks) J3) LT fun h3' tk3 kp => ?_
    have fl3' := fly_keeps fl3 kp
    have up3' : sI.heap.UpToSlots h3' := (up.trans up3).trans (Heap.UpToSlots.of_keeps kp)
    have J3' : Inv X pins σ' H' { s' with heap := h3', toks := tk3 } := J.landed nb fl3'.1 up3' os ag
    cases bc with
    | true =>
      simp only [hc] at q
      refine codeAny_handlers_suite_as ?_
      refine HandSPX.lands_againZ fl3' fun h4 fl4 up4 => ?_
      have J4 : Inv X pins σ' H' { s' with heap := h4, toks := tk3 } := J.landed nb fl4.1 (up3'.trans up4) os ag
      obtain ⟨oe4, vs4, he4, hz4, hd4⟩ := fl4.there
      have T4 : Inv X pins σ' (upd H' a (exv cls d a)) { s' with heap := h4, toks := tk3 } := Inv_track J4 na n0 nL nC nP ⟨⟨oe4, vs4, he4, hz4, hd4⟩, ⟨oe4, he4⟩, fun _ _ ⟨o, v, q, r⟩ k => ⟨o, v, k o q, r⟩⟩
      have S4 := toS (tk := tk3) T4
      have l1 : Le X.K H' m' (upd H' a (exv cls d a)) (m' ++ [a]) := (Le.new na).trans Le.more
      have rx4 : RX X.K (upd H' a (exv cls d a)) (m' ++ [a]) c gs cls d := RX.up l1 (fun d' gs' z => by rw [upd_ne (ne_of_none z na)]; exact z) ⟨ecls, by assumption⟩
      have rs4 : RS X.K (upd H' a (exv cls d a)) (m' ++ [a]) (S' ++ [.exc c gs]) := (rs'.side na).push (rs'.newp na) ⟨d, by rw [upd_same, ecls], by rw [← ecls]; exact rx4⟩
      have ref4 : RV X.K (upd H' a (exv cls d a)) (m' ++ [a]) (.ref S'.length) (.ref a) := .ref (by rw [← rs'.len]; simp)
      have q4 := PQ.re l1 q
      refine store_ok (X := X.suite a (X.pn ++ pins)) (v := .ref a) S4 hN hi hloc rfl (fun s5 S5 => ?_) (.inr hln)
      let D' : Ends := { nx := fun σ' H' => D.nx (σ'.set i none) H', rt := D.rt, bk := fun σ' H' => D.bk (σ'.set i none) H', ct := fun σ' H' => D.ct (σ'.set i none) H' }
      have run := (hsu a (X.pn ++ pins)).run [] s5 (σ'.set i (some (.ref a))) (upd H' a (exv cls d a)) D' S5 ⟨m' ++ [a], _, _, (re'.up l1).set i ref4, rs4, by
        cases ee : fs (E'.set i (some (.ref S'.length))) (S' ++ [.exc c gs]) with
        | nx E2 S2 => rw [ee] at q4; exact fun H6 m6 σ6 l6 re6 rs6 => q4 H6 m6 _ l6 (re6.unset i) rs6
        | brk E2 S2 => rw [ee] at q4; exact fun H6 m6 σ6 l6 re6 rs6 => q4 H6 m6 _ l6 (re6.unset i) rs6
        | cnt E2 S2 => rw [ee] at q4; exact fun H6 m6 σ6 l6 re6 rs6 => q4 H6 m6 _ l6 (re6.unset i) rs6
        | ret d2 S2 => rw [ee] at q4; exact q4
        | exc c2 g2 E2 S2 => rw [ee] at q4; exact q4.elim
        | bad => rw [ee] at q4; exact q4.elim⟩
      refine wpAny_mono run (fun f s6 hsp => ?_) (fun _ _ z => False.elim z)
      have back : ∀ {σ6 : L2.St} {H6 : Hp}, Inv (X.suite a (X.pn ++ pins)) [] σ6 H6 s6 → Inv X pins σ6 H6 s6 := fun {σ6 H6} S6 =>
        ⟨ok, S6.os, S6.bare, S6.base, S6.loc, S6.cell, S6.free, S6.freeC, fun p hp => S6.pin p (by rw [List.append_nil]; exact hp), S6.hok, S6.len⟩
      have end_ : ∀ {σ6 : L2.St} {H6 : Hp} {Q : Shared → Prop}, Inv (X.suite a (X.pn ++ pins)) [] σ6 H6 s6 → (∀ s7, Inv X pins (σ6.set i none) H6 s7 → Q s7) →
          wpAny (model X.prog X.w) X.A (do bindName X.env n .none; unbindBehindTheSuite X.env n pos') (fun _ s7 => Q s7) X.xe s6 := fun {σ6 H6 Q} S6 hq => gone_ok (back S6) hN hi hln hq
      cases f with
      | next => obtain ⟨σ6, H6, S6, q6⟩ := hsp; exact end_ S6 fun s7 J7 => ⟨_, _, J7, q6⟩
      | brk => obtain ⟨σ6, H6, S6, q6⟩ := hsp; exact end_ S6 fun s7 J7 => ⟨_, _, J7, q6⟩
      | cont => obtain ⟨σ6, H6, S6, q6⟩ := hsp; exact end_ S6 fun s7 J7 => ⟨_, _, J7, q6⟩
      | ret u => obtain ⟨v6, σ6, H6, S6, r6, q6⟩ := hsp; exact end_ S6 fun s7 J7 => ⟨_, _, _, J7, r6, q6⟩
    | false =>
      simp only [hc] at q
      show wpAny _ X.A (handleBy (.ref a) X.env []) _ _ _
      have out : ∀ {h' : Heap}, HandSPX.HeldZ B (X.env :: X.outer) a (Zc cls d) X.env.locals h' → h3'.UpToSlots h' → X.xe (.ref a) { s' with heap := h', toks := tk3 } := fun {h'} hh4 up4 =>
        tk _ _ ⟨a, B, sI, pins, σ', H', cls, d, rfl, J, nb, up3'.trans up4, .inr (.inr (by rw [hs]; exact hh4)), na, os, ag, q H' m' σ' cls d Le.refl re' rs' ⟨ecls, by assumption⟩⟩
      refine wpAny_handleBy_nil ?_
      obtain ⟨_, _, _, oe5, vs5, T5, oT5, ts5, g1, g2, g3, g4, _⟩ := id fl3'
      unfold PySem.passOn
      refine wpAny_bind (wpAny_field g1 g3 g4 ?_)
      have nT : ¬ ((Value.ref T5 == Value.none) = true) := by simp
      rw [if_neg nT]
      have fin : wpAny (model X.prog X.w) X.A (setFlight (.ref a) X.env.frame) (fun _ s4 => wpAny (model X.prog X.w) X.A (throw (.ref a) : Sem Flow) (SP X pins D) X.xe s4) X.xe { s' with heap := h3', toks := tk3 } := by
        rw [hf]
        exact HandSPX.setFlight_upZ fl3' fun h4 hh4 up4 => wpAny_throw (out hh4 up4)
      first
        | exact wpAny_bind (wpAny_pure (wpAny_bind fin))
        | exact wpAny_bind fin
  · cases f with
    | next => obtain ⟨σ', H', J', q⟩ := hsp; exact wpAny_execs_nil ⟨σ', H', J'.ofTry ok, q⟩
    | brk => obtain ⟨σ', H', J', q⟩ := hsp; exact ⟨σ', H', J'.ofTry ok, q⟩
    | cont => obtain ⟨σ', H', J', q⟩ := hsp; exact ⟨σ', H', J'.ofTry ok, q⟩
    | ret u => obtain ⟨v, σ', H', J', r, q⟩ := hsp; exact ⟨v, σ', H', J'.ofTry ok, r, q⟩
end
end Z
namespace Z
open PySem PySem.Spec PyProof.Rows L2

/-! ## raise X(e), X's own __init__ one store -/
theorem RC.same {K : PySem.W.Frag} {H H' : Hp} {m : List Addr} {c : Cell} {a : Addr} (s : Same H H') (l : Le K H m H' m) (h : RC K H m c a) : RC K H' m c a := by
  cases c with
  | lst ds => obtain ⟨vs, h3, h4⟩ := h; exact ⟨vs, s _ _ h3, h4.up l⟩
  | exc c fs => obtain ⟨dd, h3, h4⟩ := h; exact ⟨dd, s _ _ h3, h4.up l fun _ _ z => s _ _ z⟩
  | ins c fs => obtain ⟨dx, gs, h3, h4⟩ := h; exact ⟨dx, gs, s _ _ h3, h4.up l⟩
theorem Le.same {K : PySem.W.Frag} {H H' : Hp} {m : List Addr} (s : Same H H') : Le K H m H' m := by
  refine ⟨fun _ _ h => h, fun a xs h => ?_, fun a xs h => ?_, fun a h => s _ _ h⟩
  · rcases h with (h | ⟨ob, h⟩) | h
    · exact .inl (.inl (s _ _ h))
    · exact .inl (.inr ⟨ob, s _ _ h⟩)
    · exact .inr h
  · rcases h with ⟨ob, h⟩ | h
    · exact .inl ⟨ob, s _ _ h⟩
    · exact .inr h
theorem RS.same {K : PySem.W.Frag} {H H' : Hp} {m : List Addr} {S : Sto} (s : Same H H') (h : RS K H m S) : RS K H' m S :=
  ⟨h.len, h.inj, fun i c e => let ⟨a, h1, h2⟩ := h.at_ i c e; ⟨a, h1, RC.same s (Le.same s) h2⟩⟩
/-- the class object of an exception of the text under ValueError -/
def oexB (K : PySem.W.Frag) (C : Addr) : Bool := match K.lookup C with
  | some ⟨.type t, _, .cls cd, sl⟩ => decide (t = "type") && (cd.hasDict && (!cd.hasDel && ((match cd.mro with
    | .ref c :: bm => decide (c = C) && PySem.HandSPX.refsVE bm
    | _ => false) && (match sl.toList with
    | [_, _, _, _, some (.builtin n), _] => decide (n = "ValueError.__new__")
    | _ => false))))
  | _ => false
theorem oexB_ok {K : PySem.W.Frag} {C : Addr} (h : oexB K C = true) : ∃ nm q N bs bm sn sub ab col dd k0 k1 k2 k3 k5, K.lookup C = some (excClassObj nm q C N bs bm true sn sub ab col dd k0 k1 k2 k3 k5 "ValueError.__new__") ∧ PySem.HandSPX.refsVE bm = true := by
  unfold oexB at h
  cases e : K.lookup C with
  | none => rw [e] at h; cases h
  | some o =>
    obtain ⟨oc, od, dt, sl⟩ := o
    rw [e] at h
    cases oc with
    | type t =>
      cases dt with
      | cls cd =>
        obtain ⟨nm, bs, mro, ns, qn, hd, sn, sub, ab, col, del⟩ := cd
        dsimp only at h
        rw [Bool.and_eq_true, Bool.and_eq_true, Bool.and_eq_true, Bool.and_eq_true] at h
        obtain ⟨h1, h2, h3, h4, h5⟩ := h
        have e1 : t = "type" := of_decide_eq_true h1
        subst e1
        cases hd with
        | false => cases h2
        | true =>
          cases del with
          | true => cases h3
          | false =>
            cases mro with
            | nil => cases h4
            | cons r bm =>
              cases r with
              | ref c =>
                dsimp only at h4
                rw [Bool.and_eq_true] at h4
                have e2 : c = C := of_decide_eq_true h4.1
                subst e2
                obtain ⟨l⟩ := sl
                dsimp only at h5
                split at h5
                · rename_i x0 k0 k1 k2 k3 n k5
                  have e3 : n = "ValueError.__new__" := of_decide_eq_true h5
                  subst e3
                  exact ⟨nm, qn, ns, bs, bm, sn, sub, ab, col, od, k0, k1, k2, k3, k5, rfl, h4.2⟩
                · cases h5
              | _ => cases h4
      | _ => cases h
    | _ => cases h
/-- all that is asked of an exception class that is raised with one value -/
def rsB (K : PySem.W.Frag) (c : Str) : Bool := excB K c && (oexB K (He.ga K c) && (decide (PySem.W.findIn K (.ref (He.ga K c)) "__setattr__" = some (some (.builtin "object.__setattr__"))) &&
  (decide (PySem.W.findIn K (.ref (He.ga K c)) "__init__" = some (some (.ref (He.ma K (He.ga K c) "__init__")))) && decide (PySem.W.typeIn K (.ref (He.ma K (He.ga K c) "__init__")) = some (.type "function")))))
structure RsF (K : PySem.W.Frag) (c : Str) : Prop where
  ex : ExcF K c
  ox : OexC K (He.ga K c)
  ini : PySem.W.findIn K (.ref (He.ga K c)) "__init__" = some (some (.ref (He.ma K (He.ga K c) "__init__")))
  ity : PySem.W.typeIn K (.ref (He.ma K (He.ga K c) "__init__")) = some (.type "function")
theorem rsB_ok {K : PySem.W.Frag} {c : Str} (h : rsB K c = true) : RsF K c := by
  unfold rsB at h
  simp only [Bool.and_eq_true, decide_eq_true_eq] at h
  obtain ⟨h1, h2, h3, h4, h5⟩ := h
  have F := excB_ok h1
  exact ⟨F, ⟨oexB_ok h2, h3, F.sub, F.ty, F.kp⟩, h4, h5⟩
/-- __init__(self, f): self.f = f -/
def spI (C : Addr) (f : Str) : Sp := fun vs H Q _ => ∃ a v, vs = [V.ref a, v] ∧ H a = some (exo a C none) ∧ ∀ dx, H dx = none → dx ≠ a → Q .non (upd (upd H dx (exd dx [(f, v)])) a (exo a C (some dx)))
theorem init_ok {P : Program} {w : World} {K : PySem.W.Frag} {mg : Str → Option Value} {base : Heap} {qual f : Str} {params : Arguments} {scope : Scope} {fA C : Addr} {fd : FuncData} {p1 p2 p3 p4 : Pos}
    (F : FunD K "__init__" qual params [.Assign [.Attribute (.Name "self" p1) f p2] (.Name f p3) p4] scope [] [] fA fd) (Sc : FnScope [("self" : Str), f] [("self" : Str), f] scope) (T : OexC K C) (hno : PySem.W.findIn K (.ref C) f = some none)
    (hs : ∀ env : Env, swapsWith (.Name f p3) (some (.Attribute (.Name "self" p1) f p2)) p4.line env = pure false := by intro _; rfl) (hd1 : (f == ("__debug__" : Str)) = false := by decide) (hd2 : (f == ("__classdict__" : Str)) = false := by decide) :
    FnOk P w K mg base CX0 1 fA fd [("self" : Str), f] (spI C f) := by
  refine F.ok Sc (fun vs H Q E ⟨a, v, e, _⟩ => by rw [e]; rfl) fun cdv A outer s H vs Q E hr ⟨a, v, e, h1, h2⟩ => ?_
  subst e
  have vis : ∀ x, x ∈ [("self" : Str), f] → Vis scope x := fun x hx => by
    rcases Sc.par x hx with q | q
    · exact .inl q
    · exact .inr (.inl q)
  refine ⟨_, pss_one (ps_ost (pe_var (i := 0) (x := "self") rfl (vis _ List.mem_cons_self)) (pe_var (i := 1) (x := f) rfl (vis _ (List.mem_cons_of_mem _ List.mem_cons_self)) hd1 hd2) (hs _)), ?_⟩
  exact ⟨v, rfl, .ref a, rfl, a, C, rfl, T, hno, .inl ⟨h1, fun dx n1 n2 => h2 dx n1 n2⟩⟩
def sRaise (c f : Str) (fe : FE) : FS := fun E S => (fe E S).s E fun d S1 => .exc c [(f, d)] E S1
section
variable {X : Cx} {W : WX} {pos pos2 p : Pos}
theorem s_raise {c f : Str} {e : Expr} {fe : FE} {fd : FuncData} (hc : X.calm = true) (tk : Takes X W) (R : RsF X.K c) (hr : Room 2 X.A) (F1 : FnOk X.prog X.w X.K X.mg X.base CX0 1 (He.ma X.K (He.ga X.K c) "__init__") fd [("self" : Str), f] (spI (He.ga X.K c) f)) (hb : Binds X.K fd [("self" : Str), f] [])
    (hg : Gl X c) (hm : X.mg c = some (.ref (He.ga X.K c))) (he : PE X e (tE X.K W fe)) (hdb : (c == ("__debug__" : Str)) = false := by decide) (hst : starEach (e :: []) X.env = (false, eval e X.env) :: starEach [] X.env := by rfl) (hpl : (backTo pos (starEach [] X.env)).any (·.1) = false := by rfl) :
    PS X (.Raise (some (.Call (.Name c p) [e] [] pos)) none pos2) (tS X.K W (sRaise c f fe)) := by
  refine ⟨fun pins s σ H D I h => (ps_raise hc tk (pmk_oex R.ox R.ini R.ity F1 hr hb .nil pass0 hg hm (pa_cons he pa_nil hst) hdb hst hpl)).run pins s σ H D I ?_⟩
  refine (tE.stm (k := fun E d S1 => .exc c [(f, d)] E S1) h).mono fun v H1 ⟨m, E, S, d, re, rs, rv, q⟩ => ⟨(by decide : 1 ≤ 1000), fun a na => ?_⟩
  refine ⟨a, v, rfl, upd_same, fun dx nd nda => ⟨rfl, dx, [(f, v)], upd_same, ?_, ?_, ?_⟩⟩
  · rw [upd_ne nda, upd_same]
  · rw [upd_ne nda] at nd; exact nd
  · have nd1 : H1 dx = none := by rw [upd_ne nda] at nd; exact nd
    have sm : Same H1 (upd (del (upd (upd (upd H1 a (exo a (He.ga X.K c) none)) dx (exd dx [(f, v)])) a (exo a (He.ga X.K c) (some dx))) a) dx (.xd [(f, v)])) := fun b o e => by
      have n1 := ne_of_none e na
      have n2 := ne_of_none e nd1
      rw [upd_ne n2, del_ne n1, upd_ne n1, upd_ne n2, upd_ne n1]
      exact e
    have l := Le.same (K := X.K) (m := m) sm
    exact q _ m σ _ _ l (re.up l) (rs.same sm) ⟨rfl, .inr ⟨dx, _, rfl, upd_same, .cons ⟨rfl, rv.up l⟩ .nil⟩⟩

/-! ## x = [..] -/
theorem s_setLc {i : Nat} {y : Str} {py : Pos} {elt tg iter : Expr} {ifs : List Expr} {scope : Scope} {own : List (Str × Nat)} {it : FI} {pt : Pat} {g : TG} {t : FB} {tt : TT} {e : FE} {spos : Pos} (hc : X.calm = true) (hN : X.N.Nodup) (hy : X.N[i]? = some y) (hyl : X.env.scope.names.lookup y = some .local)
    (hsw : swapsWith (.ListComp elt [⟨tg, iter, ifs, 0⟩] scope pos) (some (.Name y py)) spos.line X.env = pure true) (hi : PI X tg iter (tI X.K W it)) (ok : BlkOk X.N X.env.scope scope own)
    (hg : ∀ (s : Shared) (H : Hp) (C : Addr) (cl : List (Str × Addr)) (fp : List Addr), PG (X.blk s H scope (compEnvC scope cl C X.env) fp) tg g) (hgp : GP X.K pt g) (hown : ∀ i ∈ pt.slots, i ∈ own.map (·.2))
    (ht : ∀ (s : Shared) (H : Hp) (C : Addr) (cl : List (Str × Addr)) (fp : List Addr), PTs (X.blk s H scope (compEnvC scope cl C X.env) fp) ifs tt) (htt : ∀ σ H Q, tT X.K wNo t σ H Q → tt σ H Q)
    (he : ∀ (s : Shared) (H : Hp) (C : Addr) (cl : List (Str × Addr)) (fp : List Addr), PE (X.blk s H scope (compEnvC scope cl C X.env) fp) elt (tE X.K wNo e)) (hs : ∀ x, foldedSetIterable iter X.env x = pure x := by intro _; rfl) :
    PS X (.Assign [.Name y py] (.ListComp elt [⟨tg, iter, ifs, 0⟩] scope pos) spos) (tS X.K W (sSet i (vLc it pt (own.map (·.2)) t e))) := by
  refine ⟨fun pins s σ H D I h => (ps_setLc hc hN hy hyl hsw hi ok hg ht he hs).run pins s σ H D I ?_⟩
  have h2 := (tE.stm (k := fun E d S1 => .nx (E.set i (some d)) S1) h)
  have h3 : tE X.K W (vLc it pt (own.map (·.2)) t e) σ H (fun x H1 => gName i x σ H1 D.nx) := h2.mono fun v H1 ⟨m, E, S, d, re, rs, rv, q⟩ => q H1 m _ Le.refl (re.set i rv) rs
  exact e_lc.lc_read h3 hgp hown htt
end
end Z
namespace Z
open PySem PySem.Spec PyProof.Rows L2

/-! ## short words for derivations -/
/-- a, b = e1, e2 -/
def sPar (i j : Nat) (l : FL) : FS := fun E S => match l E S with
  | .ok [a, b] S1 => .nx ((E.set i (some a)).set j (some b)) S1
  | .ok _ _ => .bad
  | .exc c fs S1 => .exc c fs E S1
  | .bad => .bad
section
variable {X : Cx} {W : WX} {pos : Pos}
theorem s_par {i j : Nat} {x y : Str} {a b : Expr} {l : FL} {px py pt : Pos} {kt k2 pt2} (hc : X.calm = true) (hN : X.N.Nodup) (hi : X.N[i]? = some x) (hj : X.N[j]? = some y) (hij : i ≠ j)
    (hx : X.env.scope.names.lookup x = some .local) (hy : X.env.scope.names.lookup y = some .local) (ha : PA X [a, b] (tL X.K W l))
    (hw : swappedStores [.Tuple [.Name x px, .Name y py] kt pt] (.Tuple [a, b] k2 pt2) X.env = pure (some [x, y]))
    (hs : swapsWithSole [.Tuple [.Name x px, .Name y py] kt pt] (.Tuple [a, b] k2 pt2) pos.line X.env = pure false := by rfl) : PS X (.Assign [.Tuple [.Name x px, .Name y py] kt pt] (.Tuple [a, b] k2 pt2) pos) (tS X.K W (sPar i j l)) := by
  refine ⟨fun pins s σ H D I h => (ps_par hc hN hi hj hij hx hy ha hw hs).run pins s σ H D I ?_⟩
  obtain ⟨m, E, S, re, rs, q⟩ := h
  refine ⟨m, E, S, re, rs, ?_⟩
  unfold sPar at q
  cases e : l E S with
  | exc c fs S1 => rw [e] at q; exact fun H1 m1 cls dd l rs1 rx => q H1 m1 σ cls dd l (re.up l) rs1 rx
  | bad => rw [e] at q; exact q
  | ok ds S1 =>
    rw [e] at q
    intro H1 m1 vs l1 rs1 rv
    cases rv with
    | nil => exact q.elim
    | cons r1 t =>
      cases t with
      | nil => exact q.elim
      | cons r2 t =>
        cases t with
        | nil => exact ⟨_, _, rfl, q H1 m1 _ l1 (((re.up l1).set i r1).set j r2) rs1⟩
        | cons _ _ => exact q.elim
theorem tk_no : Takes X wNo := fun _ _ ⟨_, _, _, _, _, _, _, _, _, _, _, _, _, _, _, _, w⟩ => w.elim
theorem e_v (i : Nat) {x : Str} (hN : X.N[i]? = some x := by rfl) (hv : Vis X.env.scope x := by first | exact Or.inl rfl | exact Or.inr (Or.inl rfl) | exact Or.inr (Or.inr rfl)) (hd : (x == ("__debug__" : Str)) = false := by decide) (hcd : (x == ("__classdict__" : Str)) = false := by decide) : PE X (.Name x pos) (tE X.K W (vV i)) := e_var hN hv hd hcd
theorem blk_by {X : Cx} {scope : Scope} {own : List (Str × Nat)} (N : List Str) (sc : Scope) (h : blkC N sc scope own = true) (hN : X.N = N := by rfl) (hs : X.env.scope = sc := by rfl) : BlkOk X.N X.env.scope scope own := by
  rw [hN, hs]
  exact blkOk_by h
theorem tt_no : ∀ {K : PySem.W.Frag} (σ : L2.St) (H : Hp) (Q : Bool → Hp → Prop), tT K wNo bTrue σ H Q → tYes σ H Q := fun σ H Q ⟨m, E, S, re, rs, p⟩ => p H m Le.refl rs
theorem tt_id {K : PySem.W.Frag} {t : FB} : ∀ (σ : L2.St) (H : Hp) (Q : Bool → Hp → Prop), tT K wNo t σ H Q → tT K wNo t σ H Q := fun _ _ _ h => h
theorem ck_ty {K : PySem.W.Frag} {n : String} : ∀ u, RelV (.ty n) u → u = ckV K (.ty n) := fun _ h => h
theorem ck_own {K : PySem.W.Frag} {c : Str} : ∀ u, RelV (.ref (He.ga K c)) u → u = ckV K (.own c) := fun _ h => h
theorem cks_nil {K : PySem.W.Frag} : ∀ us, Vals [] us → us = ([] : List CK).map (ckV K) := fun us h => by cases h; rfl
theorem cks_cons {K : PySem.W.Frag} {v : V} {vs : List V} {k : CK} {ks : List CK} (h1 : ∀ u, RelV v u → u = ckV K k) (h2 : ∀ us, Vals vs us → us = ks.map (ckV K)) : ∀ us, Vals (v :: vs) us → us = (k :: ks).map (ckV K) := fun us h => by
  cases h with
  | cons r t => rw [h1 _ r, h2 _ t]; rfl
end
section
variable {K : PySem.W.Frag} {x qual : Str} {params : Arguments} {body : List Stmt} {scope : Scope} {f : Addr} {fd : FuncData} {ps ks : List Str} {n : Nat} {idx : List Nat}
theorem bd0 (F : FunD K x qual params body scope [] [] f fd)
    (h : ∀ (kV doc pm : Value) (an : Option Addr) (cdv ct : Value) (us : List Value), us.length = n + ks.length → bindArgs (PySem.W.fnOf x qual params body scope .none kV doc pm an cdv ct) ⟨us.take n, ks.zip (us.drop n)⟩ = pure (ps.zip (pick idx us))) : Bd K fd ps n ks idx [] := by
  obtain ⟨oc, od, dV, kV, doc, pm, an, cdv, ct, osl, rfl, lk, hcd, hD, hK⟩ := F.ex
  rcases hD with ⟨_, rfl⟩ | ⟨e, _⟩
  · refine ⟨[], [], fun _ _ => .nil, .nil, fun s us _ hl => ?_⟩
    rw [List.append_nil]
    exact .of_eq (h kV doc pm an cdv ct us hl)
  · exact absurd rfl e
theorem bd1 {dvs : List V} {dfl : List D} (F : FunD K x qual params body scope dvs [] f fd) (hne : dvs ≠ []) (hd : ∀ H m, RVs K H m dfl dvs)
    (h : ∀ (T : Addr) (kV doc pm : Value) (an : Option Addr) (cdv ct : Value) (us its : List Value), us.length = n + ks.length → its.length = dvs.length →
      ∃ k, bindArgs (PySem.W.fnOf x qual params body scope (.ref T) kV doc pm an cdv ct) ⟨us.take n, ks.zip (us.drop n)⟩ = seqItems? (.ref T) >>= k ∧ k (some its.toArray) = pure (ps.zip (pick idx (us ++ its)))) : Bd K fd ps n ks idx dfl := by
  obtain ⟨oc, od, dV, kV, doc, pm, an, cdv, ct, osl, rfl, lk, hcd, hD, hK⟩ := F.ex
  rcases hD with ⟨e, _⟩ | ⟨_, T, o, its, m, rfl, lT, oT, rT⟩
  · exact absurd e hne
  · refine ⟨dvs, its, hd, rT, fun s us X hl => BindsTo.of_looks fun M => ?_⟩
    obtain ⟨k, e1, e2⟩ := h T kV doc pm an cdv ct us its hl rT.length.symm
    rw [e1]
    exact looks_items X lT oT (.of_pure e2)
end
/-- the classes of exceptions that may come to a clause, each with the clause's answer -/
def caughtL (l : List (Str × Bool)) (c : Str) : Option Bool := l.lookup c
def caughtB (K : PySem.W.Frag) (l : List (Str × Bool)) (cs : List CK) : Bool := l.all fun p => decide (PySem.W.exmAny K (.ref (He.ga K p.1)) (cs.map (ckV K)) = some p.2)
theorem lk_mem {c : Str} {b : Bool} : ∀ {l : List (Str × Bool)}, l.lookup c = some b → (c, b) ∈ l
  | [], h => by cases h
  | (k', b') :: r, h => by
    rw [List.lookup_cons] at h
    by_cases e : c == k'
    · simp only [e] at h
      cases h
      have e' : c = k' := by simpa using e
      rw [e']
      exact List.mem_cons_self
    · simp only [e] at h
      exact List.mem_cons_of_mem _ (lk_mem h)
theorem caught2 {X : Cx} {l : List (Str × Bool)} {k1 k2 : CK} {x1 x2 : Str} {p1 p2 tp : Pos} {kk : Nat} (h : caughtB X.K l [k1, k2] = true) (n1 : Names X x1 (ckV X.K k1)) (n2 : Names X x2 (ckV X.K k2)) :
    ∀ c b, caughtL l c = some b → ExT X (.Tuple [.Name x1 p1, .Name x2 p2] kk tp) (.ref (He.ga X.K c)) b := fun c b e => by
  have hm := lk_mem e
  unfold caughtB at h
  rw [List.all_eq_true] at h
  exact ext2 n1 n2 (of_decide_eq_true (h _ hm))
theorem exm_any1 {K : PySem.W.Frag} {cls c : Value} {b : Bool} (h : PySem.W.exmAny K cls [c] = some b) : PySem.W.exmOne K cls c = some b := by
  obtain ⟨b1, d1, h1, h2, h3⟩ := PySem.W.exmAny_cons h
  have : d1 = false := by
    have h2' : some false = some d1 := h2
    cases h2'
    rfl
  subst this
  rw [h1, h3, Bool.or_false]
theorem caught1 {X : Cx} {l : List (Str × Bool)} {k1 : CK} {x1 : Str} {p1 : Pos} (h : caughtB X.K l [k1] = true) (n1 : Names X x1 (ckV X.K k1)) :
    ∀ c b, caughtL l c = some b → ExT X (.Name x1 p1) (.ref (He.ga X.K c)) b := fun c b e => by
  have hm := lk_mem e
  unfold caughtB at h
  rw [List.all_eq_true] at h
  exact ext1 n1 (exm_any1 (of_decide_eq_true (h _ hm)))
theorem nm_own {X : Cx} {x : Str} (hg : Gl X x) (hm : X.mg x = some (.ref (He.ga X.K x))) (hd : (x == ("__debug__" : Str)) = false := by decide) : Names X x (ckV X.K (.own x)) := ⟨hg, hd, .inl hm⟩
end Z
namespace Z
open PySem PySem.Spec PyProof.Rows L2
section
variable {X : Cx} {W : WX} {pos : Pos}
/-! ### a tuple of the module's own -/
theorem e_kon {x : Str} {vs : List He.Dv} {ds : List D} (hg : Gl X x) (hm : X.mg x = some (.ref (He.ga X.K x))) (hk : He.tupB X.K x vs = true) (hr : ∀ H m, RVs X.K H m ds (vs.map (He.Dv.v X.K))) (hd : (x == ("__debug__" : Str)) = false := by decide) : PE X (.Name x pos) (tE X.K W (vC (.tup ds))) := by
  refine ⟨fun pins s σ H Q I ⟨m, E, S, re, rs, p⟩ => ?_⟩
  exact (pe_glob (v := .ref (He.ga X.K x)) hg hm rfl hd).run pins s σ H Q I (p H m _ Le.refl rs (.tup (He.tupB_ok hk H) (hr H m)))
theorem e_konI {x : Str} {i : Int} (hg : Gl X x) (hm : ∃ t, X.mg x = some (.int i t)) (hd : (x == ("__debug__" : Str)) = false := by decide) : PE X (.Name x pos) (tE X.K W (vC (.int i))) := by
  obtain ⟨t, hm⟩ := hm
  refine ⟨fun pins s σ H Q I ⟨m, E, S, re, rs, p⟩ => ?_⟩
  exact (pe_glob (v := .int i) hg hm ⟨t, rfl⟩ hd).run pins s σ H Q I (p H m _ Le.refl rs (.int i))
theorem room65 {k : Nat} {A : Around} (r : Room k A) : A.units + 65 < cLine := by have := r.un; omega
/-! ### methods of what the language brings -/
/-- the receiver's kind is looked at ahead of the arguments -/
def vMeth (ty : D → Sto → Bool) (g : D → List D → Sto → Res) (f : FE) (l : FL) : FE := fun E S => (f E S).bind fun x S1 => if ty x S1 then (l E S1).bind fun xs S2 => g x xs S2 else .bad
def isLst (d : D) (S : Sto) : Bool := match d with
  | .ref n => (match S[n]? with
    | some (.lst _) => true
    | _ => false)
  | _ => false
def isStr (d : D) (_ : Sto) : Bool := match d with
  | .str _ => true
  | _ => false
def TyOk (X : Cx) (T : String) (ty : D → Sto → Bool) : Prop := ∀ H m S d x, RS X.K H m S → RV X.K H m d x → ty d S = true → tyV X.K T x H
theorem ty_lst : TyOk X "list" isLst := by
  intro H m S d x rs rd h
  cases d with
  | ref n =>
    cases e : S[n]? with
    | none => simp [isLst, e] at h
    | some c =>
      cases c with
      | lst xs =>
        obtain ⟨a, vs, rfl, _, h2, _⟩ := rs.list e rd
        exact .inl ⟨rfl, vs, SqL.of h2⟩
      | _ => simp [isLst, e] at h
  | _ => simp [isLst] at h
theorem ty_str : TyOk X "str" isStr := by
  intro H m S d x rs rd h
  cases rd with
  | str z => exact (rfl : "str" = "str")
  | _ => simp [isStr] at h
def Quiet (g : D → List D → Sto → Res) : Prop := ∀ d ds S c fs S', g d ds S ≠ .exc c fs S'
theorem PV.anyσ {K : PySem.W.Frag} {H : Hp} {m : List Addr} {σ σ' : L2.St} {r : Res} {Q : VK} (h : PV K W H m σ r Q) (hq : ∀ c fs S', r ≠ .exc c fs S') : PV K W H m σ' r Q := by
  cases r with
  | ok d S => exact h
  | exc c fs S => exact absurd rfl (hq c fs S)
  | bad => exact h
theorem e_meth {o e : Expr} {es : List Expr} {name : Str} {apos : Pos} {T id : String} {ty : D → Sto → Bool} {g : D → List D → Sto → Res} {f : FE} {l : FL} (pa : PlainAttrs T) (slot : Slot T name id) (hty : typeOf (.builtin id) = pure (.type "method_descriptor"))
    (hm : OM X T id g) (hT : TyOk X T ty) (hq : Quiet g) (ho : PE X o (tE X.K W f)) (ha : PA X (e :: es) (tL X.K W l))
    (hbase : attributeBase o name X.env (eval o X.env) = eval o X.env := by rfl)
    (hfew : ((backTo pos (starEach (e :: es) X.env)).all (fun x => !x.1) && (backToKw pos (keywordEach [] X.env)).all (fun x => x.1.isSome)
      && decide ((e :: es).length + ([] : List Keyword).length + (if ([] : List Keyword).isEmpty then 0 else 1) < 30)) = true := by rfl)
    (hline : (apos.endLine == pos.line) = true := by rfl) (hs : starEach (e :: es) X.env = (false, eval e X.env) :: starEach es X.env := by rfl) (hplain : (backTo pos (starEach es X.env)).any (·.1) = false := by rfl) :
    PE X (.Call (.Attribute o name apos) (e :: es) [] pos) (tE X.K W (vMeth ty g f l)) := by
  let r : V → List V → Hp → VK → Prop := fun x xs H Q => ∃ σ m S d ds, RS X.K H m S ∧ RV X.K H m d x ∧ RVs X.K H m ds xs ∧ PV X.K W H m σ (g d ds S) Q
  have hr : MtR X id r := fun pins s σ H x xs v us Q I rx rxs ⟨σ', m, S, d, ds, rs, rd, rds, p⟩ => hm W pins s σ H m S d ds x xs v us Q I rs rd rds rx rxs (p.anyσ (hq d ds S))
  refine ⟨fun pins s σ H Q I h => (pe_bm pa slot hty hr ho ha hbase hfew hline hs hplain).run pins s σ H Q I ?_⟩
  obtain ⟨m, E, S, re, rs, p⟩ := h
  refine ⟨m, E, S, re, rs, ?_⟩
  unfold vMeth at p
  cases e1 : f E S with
  | bad => rw [e1] at p; exact p.elim
  | exc c fs S1 => rw [e1] at p; exact p
  | ok d S1 =>
    rw [e1] at p
    intro H1 m1 v l1 rs1 rv1
    have p1 := PV.re l1 (show PV X.K W H m σ (if ty d S1 then (l E S1).bind fun xs S2 => g d xs S2 else .bad) Q from p)
    by_cases hz : ty d S1 = true
    · rw [if_pos hz] at p1
      refine ⟨hT H1 m1 S1 d v rs1 rv1 hz, m1, E, S1, re.up l1, rs1, ?_⟩
      cases e2 : l E S1 with
      | bad => rw [e2] at p1; exact p1.elim
      | exc c fs S2 => rw [e2] at p1; exact p1
      | ok ds S2 =>
        rw [e2] at p1
        intro H2 m2 vs l2 rs2 rv2
        exact ⟨σ, m2, S2, d, ds, rs2, rv1.up l2, rv2, PV.re l2 (show PV X.K W H1 m1 σ (g d ds S2) Q from p1)⟩
    · rw [if_neg hz] at p1
      exact p1.elim
def gApp (d : D) (ds : List D) (S : Sto) : Res := match d, ds with
  | .ref n, [y] => (match S[n]? with
    | some (.lst xs) => if xs.length < 100000 then .ok .non (S.set n (.lst (xs ++ [y]))) else .bad
    | _ => .bad)
  | _, _ => .bad
theorem q_app : Quiet gApp := by
  intro d ds S c fs S' h
  unfold gApp at h
  split at h
  · split at h
    · split at h <;> cases h
    · cases h
  · cases h
theorem m_app : OM X "list" "list.append" gApp := by
  intro W pins s σ H m S d ds x xs v us Q I rs rd rds rx rxs p
  unfold gApp at p
  split at p
  · rename_i n y
    split at p
    · rename_i zs e
      split at p
      · rename_i hl
        obtain ⟨a, vs, rfl, h1, h2, h3⟩ := rs.list e rd
        cases rds with
        | cons ry rt =>
          cases rt
          obtain ⟨l, rs'⟩ := rs.write e h1 h2 (h3.app (.cons ry .nil))
          exact mt_append pins s σ H _ _ v us Q I rx rxs ⟨a, vs, _, rfl, rfl, h2, by rw [← h3.len]; exact Nat.lt_of_lt_of_le hl (by decide), p _ m _ l rs' .non⟩
      · exact p.elim
    · exact p.elim
  · exact p.elim
/-! ### in, not in, by data -/
def gInP (neg : Bool) (d e : D) (S : Sto) : Res := match toPD S 60 d, toPD S 60 e with
  | some p, some (.tuple ps) => if SeqAt.shaped p && SeqAt.shaped (.tuple ps) then .ok (.bl (if neg then !(ps.any fun z => PyData.eqv z p) else ps.any fun z => PyData.eqv z p)) S else .bad
  | some p, some (.list ps) => if SeqAt.shaped p && SeqAt.shaped (.list ps) then .ok (.bl (if neg then !(ps.any fun z => PyData.eqv z p) else ps.any fun z => PyData.eqv z p)) S else .bad
  | _, _ => .bad
theorem o_inP (hu : X.A.units + 65 < cLine) : O2 X (compareOp .In) (gInP false) := by
  intro W pins s σ H m S d e x y v u Q I rs rd re rx ry p
  unfold gInP at p
  split at p
  · rename_i a ps e1 e2
    split at p
    · rename_i hz
      obtain ⟨z1, z2⟩ := Bool.and_eq_true_iff.mp hz
      obtain ⟨as, r1, _⟩ := reads_of I rs rd rx e1
      obtain ⟨bs, r2, _⟩ := reads_of I rs re ry e2
      exact SeqAt.in_tuple_reads r2 r1 (SeqAt.canLay_of_shaped z2) (SeqAt.canLay_of_shaped z1) (room_in_shaped z1 hu) ⟨.bl _, H, I, rfl, p H m _ Le.refl rs (.bl _)⟩
    · exact p.elim
  · rename_i a ps e1 e2
    split at p
    · rename_i hz
      obtain ⟨z1, z2⟩ := Bool.and_eq_true_iff.mp hz
      obtain ⟨as, r1, _⟩ := reads_of I rs rd rx e1
      obtain ⟨bs, r2, _⟩ := reads_of I rs re ry e2
      exact SeqAt.in_list_reads r2 r1 (SeqAt.canLay_of_shaped z2) (SeqAt.canLay_of_shaped z1) (room_in_shaped z1 hu) ⟨.bl _, H, I, rfl, p H m _ Le.refl rs (.bl _)⟩
    · exact p.elim
  · exact p.elim
theorem o_notinP (hu : X.A.units + 65 < cLine) : O2 X (compareOp .NotIn) (gInP true) := by
  intro W pins s σ H m S d e x y v u Q I rs rd re rx ry p
  unfold gInP at p
  split at p
  · rename_i a ps e1 e2
    split at p
    · rename_i hz
      obtain ⟨z1, z2⟩ := Bool.and_eq_true_iff.mp hz
      obtain ⟨as, r1, _⟩ := reads_of I rs rd rx e1
      obtain ⟨bs, r2, _⟩ := reads_of I rs re ry e2
      exact SeqAt.notIn_tuple_reads r2 r1 (SeqAt.canLay_of_shaped z2) (SeqAt.canLay_of_shaped z1) (room_in_shaped z1 hu) ⟨.bl _, H, I, rfl, p H m _ Le.refl rs (.bl _)⟩
    · exact p.elim
  · rename_i a ps e1 e2
    split at p
    · rename_i hz
      obtain ⟨z1, z2⟩ := Bool.and_eq_true_iff.mp hz
      obtain ⟨as, r1, _⟩ := reads_of I rs rd rx e1
      obtain ⟨bs, r2, _⟩ := reads_of I rs re ry e2
      exact SeqAt.notIn_list_reads r2 r1 (SeqAt.canLay_of_shaped z2) (SeqAt.canLay_of_shaped z1) (room_in_shaped z1 hu) ⟨.bl _, H, I, rfl, p H m _ Le.refl rs (.bl _)⟩
    · exact p.elim
  · exact p.elim
theorem fn_none {P : Program} {w : World} {K : PySem.W.Frag} {mg : Str → Option Value} {base : Heap} {k : Nat} {f : Addr} {fd : FuncData} {ps : List Str} : FnG P w K mg base k f fd ps (spF K ps.length fun _ _ => .bad) :=
  ⟨fun vs H Q E ⟨m, S, ds, h1, _, h2, _⟩ => by rw [← h2.len, h1], fun A outer s H args us vs Q E _ _ _ _ _ ⟨m, S, ds, _, _, _, p⟩ => p.elim⟩
/-! ### a op1 b op2 c -/
def vChain (g1 g2 : D → D → Sto → Res) (f1 f2 f3 : FE) : FE := fun E S => (f1 E S).bind fun x S1 => (f2 E S1).bind fun y S2 => (g1 x y S2).bind fun z S3 => match z with
  | .bl k => if k then (f3 E S3).bind fun w S4 => g2 y w S4 else .ok (.bl false) S3
  | _ => .bad
def Calm2 (g : D → D → Sto → Res) : Prop := ∀ d e S c fs S', g d e S ≠ .exc c fs S'
theorem calm_cmp {p : Int → Int → Bool} : Calm2 (gCmpI p) := by
  intro d e S c fs S' h
  unfold gCmpI at h
  split at h <;> cases h
def rO2 (X : Cx) (W : WX) (g : D → D → Sto → Res) : R2 := fun x y H Q => ∃ σ m S d e, RS X.K H m S ∧ RV X.K H m d x ∧ RV X.K H m e y ∧ PV X.K W H m σ (g d e S) Q
theorem O2.op {X : Cx} {W : WX} {op : CmpOp} {g : D → D → Sto → Res} (ho : O2 X (compareOp op) g) (hc : Calm2 g) : OpR X (compareOp op) (rO2 X W g) :=
  fun pins s σ H x y v u Q I rx ry ⟨σ', m, S, d, e, rs, rd, re, p⟩ => ho W pins s σ H m S d e x y v u Q I rs rd re rx ry (p.anyσ (hc d e S))
theorem chain_read {K : PySem.W.Frag} {X : Cx} (hK : X.K = K) {W : WX} {g1 g2 : D → D → Sto → Res} {f1 f2 f3 : FE} {σ : L2.St} {H : Hp} {Q : VK} (h : tE X.K W (vChain g1 g2 f1 f2 f3) σ H Q) : tChain (rO2 X W g1) (rO2 X W g2) (tE X.K W f1) (tE X.K W f2) (tE X.K W f3) σ H Q := by
  obtain ⟨m, E, S, re, rs, p⟩ := h
  refine ⟨m, E, S, re, rs, ?_⟩
  unfold vChain at p
  cases e1 : f1 E S with
  | bad => rw [e1] at p; exact p.elim
  | exc c fs S1 => rw [e1] at p; exact p
  | ok x S1 =>
    rw [e1] at p
    intro H1 m1 vx l1 rs1 rx
    have p1 := PV.re l1 p
    refine ⟨m1, E, S1, re.up l1, rs1, ?_⟩
    simp only [Res.bind_ok] at p1
    cases e2 : f2 E S1 with
    | bad => rw [e2] at p1; exact p1.elim
    | exc c fs S2 => rw [e2] at p1; exact p1
    | ok y S2 =>
      rw [e2] at p1
      intro H2 m2 vy l2 rs2 ry
      have p2 := PV.re l2 p1
      refine ⟨σ, m2, S2, x, y, rs2, rx.up l2, ry, ?_⟩
      simp only [Res.bind_ok] at p2
      cases e3 : g1 x y S2 with
      | bad => rw [e3] at p2; exact p2.elim
      | exc c fs S3 => rw [e3] at p2; exact p2
      | ok z S3 =>
        rw [e3] at p2
        intro H3 m3 vz l3 rs3 rz
        have p3 := PV.re l3 p2
        simp only [Res.bind_ok] at p3
        cases rz with
        | bl k =>
          refine ⟨k, rfl, ?_⟩
          cases k with
          | false => exact p3 H3 m3 _ Le.refl rs3 (.bl _)
          | true =>
            refine ⟨m3, E, S3, re.up (l1.trans (l2.trans l3)), rs3, ?_⟩
            simp only [if_true] at p3
            cases e4 : f3 E S3 with
            | bad => rw [e4] at p3; exact p3.elim
            | exc c fs S4 => rw [e4] at p3; exact p3
            | ok w S4 =>
              rw [e4] at p3
              intro H4 m4 vw l4 rs4 rw'
              exact ⟨σ, m4, S4, y, w, rs4, ry.up (l3.trans l4), rw', PV.re l4 p3⟩
        | _ => exact p3.elim
theorem e_chain {a b c : Expr} {op op' : CmpOp} {g1 g2 : D → D → Sto → Res} {f1 f2 f3 : FE} (ho : O2 X (compareOp op) g1) (hc1 : Calm2 g1) (ho' : O2 X (compareOp op') g2) (hc2 : Calm2 g2) (ha : PE X a (tE X.K W f1)) (hb : PE X b (tE X.K W f2)) (hc : PE X c (tE X.K W f3))
    (hm : lastMarks [op, op'] [b, c] = false := by with_unfolding_all rfl) : PE X (.Compare a [op, op'] [b, c] pos) (tE X.K W (vChain g1 g2 f1 f2 f3)) :=
  ⟨fun pins s σ H Q I h => (pe_chain (ho.op (W := W) hc1) (ho'.op (W := W) hc2) ha hb hc hm).run pins s σ H Q I (chain_read rfl h)⟩
def bBl (f : FE) : FB := fun E S => (f E S).bindB fun z S1 => match z with
  | .bl k => .ok k S1
  | _ => .bad
theorem t_chain {a b c : Expr} {op op' : CmpOp} {g1 g2 : D → D → Sto → Res} {f1 f2 f3 : FE} (ho : O2 X (compareOp op) g1) (hc1 : Calm2 g1) (ho' : O2 X (compareOp op') g2) (hc2 : Calm2 g2) (ha : PE X a (tE X.K W f1)) (hb : PE X b (tE X.K W f2)) (hc : PE X c (tE X.K W f3))
    (hm : lastMarks [op, op'] [b, c] = false := by with_unfolding_all rfl) : PT X (.Compare a [op, op'] [b, c] pos) (tT X.K W (bBl (vChain g1 g2 f1 f2 f3))) := by
  refine ⟨fun pins s σ H Q I ⟨m, E, S, re, rs, p⟩ => (pt_chain (ho.op (W := W) hc1) (ho'.op (W := W) hc2) ha hb hc hm).run pins s σ H Q I (chain_read rfl ⟨m, E, S, re, rs, ?_⟩)⟩
  unfold bBl at p
  cases e1 : vChain g1 g2 f1 f2 f3 E S with
  | bad => rw [e1] at p; exact p.elim
  | exc cc fs S1 => rw [e1] at p; exact p
  | ok z S1 =>
    rw [e1] at p
    intro H' m' v l rs' rv
    cases rv with
    | bl k => exact ⟨k, rfl, p H' m' l rs'⟩
    | _ => exact p.elim
/-! ### x += e, numbers -/
def sAugI (i : Nat) (k : Int → Int → Int) (f : FE) : FS := fun E S => match E[i]? with
  | some (some (.int a)) => (f E S).s E fun y S1 => match y with
    | .int b => .nx (E.set i (some (.int (k a b)))) S1
    | _ => .bad
  | _ => .bad
theorem s_augI {i : Nat} {x : Str} {e : Expr} {f : FE} {op : Operator} {k : Int → Int → Int} {pos' : Pos} (hN : X.N.Nodup) (hi : X.N[i]? = some x) (hx : Loc X.env.scope x) (he : PE X e (tE X.K W f)) (ho : PIp X op (ipI k)) (hf : X.fn x = true ∨ X.env.scope.names.lookup x = some .local := by first | exact .inl rfl | exact .inr rfl | assumption) :
    PS X (.AugAssign (.Name x pos') op e pos) (tS X.K W (sAugI i k f)) := by
  refine ⟨fun pins s σ H D0 I ⟨m, E, S, re, rs, p⟩ => (ps_aug hN hi hx he ho hf).run pins s σ H D0 I ?_⟩
  unfold sAugI at p
  split at p
  · rename_i a e0
    obtain ⟨v, h1, h2⟩ := re.at_ i _ e0
    cases h2
    refine ⟨_, h1, m, E, S, re, rs, ?_⟩
    cases e1 : f E S with
    | bad => rw [e1] at p; exact p.elim
    | exc c fs S1 =>
      rw [e1] at p
      intro H' m' cls dd l rs' rx
      exact p H' m' σ cls dd l (re.up l) rs' rx
    | ok y S1 =>
      rw [e1] at p
      intro H1 m1 vy l1 rs1 ry
      cases ry with
      | int b => exact ⟨a, b, rfl, rfl, p H1 m1 _ l1 ((re.up l1).set i (.int _)) rs1⟩
      | _ => exact p.elim
  · exact p.elim
/-! ### methods without arguments -/
def vMeth0 (ty : D → Sto → Bool) (g : D → List D → Sto → Res) (f : FE) : FE := fun E S => (f E S).bind fun x S1 => if ty x S1 then g x [] S1 else .bad
theorem e_meth0 {o : Expr} {name : Str} {apos : Pos} {T id : String} {ty : D → Sto → Bool} {g : D → List D → Sto → Res} {f : FE} (pa : PlainAttrs T) (slot : Slot T name id) (hty : typeOf (.builtin id) = pure (.type "method_descriptor"))
    (hm : OM X T id g) (hT : TyOk X T ty) (hq : Quiet g) (ho : PE X o (tE X.K W f)) (hbase : attributeBase o name X.env (eval o X.env) = eval o X.env := by rfl) (hline : (apos.endLine == pos.line) = true := by rfl) :
    PE X (.Call (.Attribute o name apos) [] [] pos) (tE X.K W (vMeth0 ty g f)) := by
  let r : V → List V → Hp → VK → Prop := fun x xs H Q => ∃ σ m S d ds, RS X.K H m S ∧ RV X.K H m d x ∧ RVs X.K H m ds xs ∧ PV X.K W H m σ (g d ds S) Q
  have hr : MtR X id r := fun pins s σ H x xs v us Q I rx rxs ⟨σ', m, S, d, ds, rs, rd, rds, p⟩ => hm W pins s σ H m S d ds x xs v us Q I rs rd rds rx rxs (p.anyσ (hq d ds S))
  refine ⟨fun pins s σ H Q I ⟨m, E, S, re, rs, p⟩ => (pe_bm0 pa slot hty hr ho hbase hline).run pins s σ H Q I ⟨m, E, S, re, rs, ?_⟩⟩
  unfold vMeth0 at p
  cases e1 : f E S with
  | bad => rw [e1] at p; exact p.elim
  | exc c fs S1 => rw [e1] at p; exact p
  | ok d S1 =>
    rw [e1] at p
    intro H1 m1 v l1 rs1 rv1
    have p1 := PV.re l1 (show PV X.K W H m σ (if ty d S1 then g d [] S1 else .bad) Q from p)
    by_cases hz : ty d S1 = true
    · rw [if_pos hz] at p1
      exact ⟨hT H1 m1 S1 d v rs1 rv1 hz, σ, m1, S1, d, [], rs1, rv1, .nil, p1⟩
    · rw [if_neg hz] at p1
      exact p1.elim
def gPop (d : D) (ds : List D) (S : Sto) : Res := match d, ds with
  | .ref n, [] => (match S[n]? with
    | some (.lst xs) => (match xs[xs.length - 1]? with
      | some y => .ok y (S.set n (.lst xs.dropLast))
      | none => .bad)
    | _ => .bad)
  | _, _ => .bad
theorem q_pop : Quiet gPop := by
  intro d ds S c fs S' h
  unfold gPop at h
  split at h
  · split at h
    · split at h <;> cases h
    · cases h
  · cases h
theorem RVs.dropLast {K H m} : ∀ {ds : List D} {vs : List V}, RVs K H m ds vs → RVs K H m ds.dropLast vs.dropLast
  | _, _, .nil => .nil
  | _, _, .cons r .nil => .nil
  | _, _, .cons r (.cons r2 t) => .cons r (RVs.dropLast (.cons r2 t))
theorem m_pop : OM X "list" "list.pop" gPop := by
  intro W pins s σ H m S d ds x xs v us Q I rs rd rds rx rxs p
  unfold gPop at p
  split at p
  · rename_i n
    split at p
    · rename_i zs e
      split at p
      · rename_i y ey
        obtain ⟨a, vs, rfl, h1, h2, h3⟩ := rs.list e rd
        cases rds
        obtain ⟨l, rs'⟩ := rs.write e h1 h2 h3.dropLast
        obtain ⟨w, hw, rw'⟩ := h3.at ey
        exact mt_pop pins s σ H _ _ v us Q I rx rxs ⟨a, vs, w, rfl, rfl, h2, by rw [← h3.len]; exact hw, p _ m w l rs' (rw'.up l)⟩
      · exact p.elim
    · exact p.elim
  · exact p.elim
end
end Z
namespace Z
open PySem PySem.Spec PyProof.Rows L2
/-- a list made longer by a tuple's items, whatever else the tuple has -/
theorem ext_by_tuple (l b : Addr) (xs ys : Array Value) (n n2 : Nat) (dd : Option Addr) (sl : Array (Option Value)) (h1 : ¬(!xs.isEmpty && Builtin.List.listTooLong (xs.size + ys.size)) = true) (h2 : xs.size ≤ sizeLine) (h3 : xs.size + ys.size ≤ sizeLine + 1) :
    Meets (Builtin.«list.extend» ⟨[.ref l, .ref b], []⟩) (fun _ R s => s.heap.get? l = some { cls := .type "list", dict := none, data := .seq xs n, slots := #[] } ∧
      s.heap.get? b = some { cls := .type "tuple", dict := dd, data := .seq ys n2, slots := sl } ∧ R (.ok (.ret Value.none)) { s with heap := s.heap.update l (Obj.mapSeq fun x => x ++ ys), toks := s.toks }) :=
  .of_wp fun prog w A R s h => by
    obtain ⟨hp, g, d, tk, os⟩ := s
    obtain ⟨hl, hb, h⟩ := h
    have f1 := AutoSeq1.sub_tuple_tuple
    have f2 := AutoSeq1.sub_list_list
    have f3 := AutoSeq1.sub_tuple_list
    have f4 := AutoSeq1.sub_list_tuple
    have hz' : (xs ++ ys).size ≤ sizeLine + 1 := by
      rw [Array.size_append]
      exact h3
    wp_walk using (wpAny_updateSeq hl rfl (hz := h2) (_hz' := hz')), AutoSeq1.wpAny_loadPart' hl, AutoSeq1.wpAny_loadPart' hb
    exact ⟨_, rfl, h⟩
section
variable {X : Cx}
def gExt (d : D) (ds : List D) (S : Sto) : Res := match d, ds with
  | .ref n, [.tup ys] => (match S[n]? with
    | some (.lst xs) => if xs.length + ys.length ≤ 100000 then .ok .non (S.set n (.lst (xs ++ ys))) else .bad
    | _ => .bad)
  | .ref n, [.ref k] => (match S[n]?, S[k]? with
    | some (.lst xs), some (.lst ys) => if xs.length + ys.length ≤ 100000 then .ok .non (S.set n (.lst (xs ++ ys))) else .bad
    | _, _ => .bad)
  | _, _ => .bad
theorem q_ext : Quiet gExt := by
  intro d ds S c fs S' h
  unfold gExt at h
  split at h
  · split at h
    · split at h <;> cases h
    · cases h
  · split at h
    · split at h <;> cases h
    · cases h
  · cases h
theorem m_ext : OM X "list" "list.extend" gExt := by
  intro W pins s σ H m S d ds x xs v us Q I rs rd rds rx rxs p
  unfold gExt at p
  split at p
  · rename_i n ys
    split at p
    · rename_i zs e
      split at p
      · rename_i hl
        obtain ⟨a, vs, rfl, h1, h2, h3⟩ := rs.list e rd
        cases rds with
        | cons ry rt =>
          cases rt
          cases ry with
          | tup hb hv =>
            rename_i b ws
            obtain ⟨l, rs'⟩ := rs.write e h1 h2 (h3.app hv)
            cases rx
            obtain ⟨u, rfl, ru⟩ := rxs.one
            cases ru
            obtain ⟨z, its, k, r, hl1, e1⟩ := I.lstM h2
            obtain ⟨its2, r2, ⟨⟨oc, od, odt, osl⟩, e2, q1, k2, q2⟩, z2⟩ := I.tuple hb
            cases q1
            cases q2
            have len1 : vs.length + ws.length ≤ 100000 := by
              have := h3.len
              have := hv.len
              omega
            have s1 := r.length
            have s2 := r2.length
            have hsz : its.toArray.size + its2.toArray.size ≤ sizeLine := by
              rw [List.size_toArray, List.size_toArray]
              exact Nat.le_trans (by omega) (show 100000 ≤ sizeLine by decide)
            have hlong : ¬ (!its.toArray.isEmpty && Builtin.List.listTooLong (its.toArray.size + its2.toArray.size)) = true := by
              rw [notLongL hsz, Bool.and_false]
              exact Bool.false_ne_true
            refine call_meets F.slot_list_extend ⟨_, e1, rfl⟩ F.entry_list_extend (F.args_list_extend_2 _ _) (ext_by_tuple a b its.toArray its2.toArray k k2 od osl hlong (by omega) (by omega)) ⟨e1, e2, ?_⟩
            refine ⟨.non, _, I.lset (its' := its ++ its2) h2 e1 (by simp) (r.append r2) ?_, rfl, p _ m _ l rs' .non⟩
            rw [List.length_append]
            exact Nat.le_trans len1 (by decide)
      · exact p.elim
    · exact p.elim
  · rename_i n k
    split at p
    · rename_i zs ys e e'
      split at p
      · rename_i hl
        obtain ⟨a, vs, rfl, h1, h2, h3⟩ := rs.list e rd
        cases rds with
        | cons ry rt =>
          cases rt
          obtain ⟨b, ws, rfl, g1, g2, g3⟩ := rs.list e' ry
          obtain ⟨l, rs'⟩ := rs.write e h1 h2 (h3.app g3)
          refine mt_extend pins s σ H _ _ v us Q I rx rxs ⟨a, b, vs, ws, rfl, rfl, h2, g2, ?_, p _ m _ l rs' .non⟩
          rw [← h3.len, ← g3.len]
          exact Nat.le_trans hl (by decide)
      · exact p.elim
    · exact p.elim
  · exact p.elim
end
end Z
namespace Z
open PySem PySem.Spec PyProof.Rows L2 RZ
/-! ## zip of two tuples, of two lists -/
def zipD (xs ys : List D) : List D := (xs.zip ys).map fun p => .tup [p.1, p.2]
def itZip (d e : D) (S : Sto) : ResI := match d, e with
  | .tup xs, .tup ys => .ok (zipD xs ys) [] S
  | .ref a, .ref b => (match S[a]?, S[b]? with
    | some (.lst xs), some (.lst ys) => .ok (zipD xs ys) [(a, xs), (b, ys)] S
    | _, _ => .bad)
  | _, _ => .bad
def iZp (f g : FE) : FI := fun E S => (f E S).bindI fun x S1 => (g E S1).bindI fun y S2 => itZip x y S2
section
variable {K : PySem.W.Frag} {H : Hp} {m : List Addr}
theorem zipD_at {ds es : List D} {i : Nat} {x y : D} (h1 : ds[i]? = some x) (h2 : es[i]? = some y) : (zipD ds es)[i]? = some (.tup [x, y]) := by
  unfold zipD
  rw [List.getElem?_map, (List.getElem?_zip_eq_some (z := (x, y))).mpr ⟨h1, h2⟩]
  rfl
theorem wk_zip {ds es : List D} {src : Src} {J : It} {SqX : Hp → Addr → List V → Prop} {a b : Addr}
    (hgo : ∀ i H, J.go i H = ∃ (xs ys : List V) (x y : V), SqX H a xs ∧ SqX H b ys ∧ xs[i]? = some x ∧ ys[i]? = some y)
    (hst : ∀ i H, J.stop i H = ∃ xs ys : List V, SqX H a xs ∧ SqX H b ys ∧ (xs.length ≤ i ∨ ys.length ≤ i))
    (hyl : ∀ i H v H', J.yld i H v H' = ∃ T x y, v = .ref T ∧ H T = none ∧ H' = upd H T (.tup [x, y]) ∧ (∀ xs, SqX H a xs → xs[i]? = some x) ∧ ∀ ys, SqX H b ys → ys[i]? = some y)
    (hs : ∀ H1 m1 S, Le K H m H1 m1 → RS K H1 m1 S → srcOk src (zipD ds es) S → ∃ vs us, SqX H1 a vs ∧ SqX H1 b us ∧ RVs K H1 m1 ds vs ∧ RVs K H1 m1 es us) : WK K H m J (zipD ds es) src := by
  intro H1 m1 S l rs so
  obtain ⟨vs, us, s1, s2, r1, r2⟩ := hs H1 m1 S l rs so
  have hl : (zipD ds es).length = min vs.length us.length := by simp [zipD, r1.len, r2.len]
  refine ⟨fun i hi => ?_, ?_, fun i x H' hi y => ?_⟩
  · rw [hgo]
    have h1 : i < vs.length := by omega
    have h2 : i < us.length := by omega
    exact ⟨vs, us, _, _, s1, s2, List.getElem?_eq_getElem h1, List.getElem?_eq_getElem h2⟩
  · rw [hst]
    exact ⟨vs, us, s1, s2, by omega⟩
  · rw [hyl] at y
    obtain ⟨T, v, u, rfl, hT, rfl, q1, q2⟩ := y
    obtain ⟨d, e1, rv1⟩ := r1.at' (q1 vs s1)
    obtain ⟨d2, e2, rv2⟩ := r2.at' (q2 us s2)
    have l1 : Le K H1 m1 (upd H1 T (.tup [v, u])) m1 := Le.new hT
    exact ⟨m1, .tup [d, d2], l1, rs.side hT, zipD_at e1 e2, .tup (SqT.of upd_same) (.cons (rv1.up l1) (.cons (rv2.up l1) .nil))⟩
end
section
variable {X : Cx} {W : WX}
theorem i_zip {a b : Expr} {f g : FE} {p pos tpos : Pos} {elts : List Expr} {kk : Nat} (hg : Gl X "zip") (hm : X.mg "zip" = none) (ha : PE X a (tE X.K W f)) (hb : PE X b (tE X.K W g))
    (hst : starEach (a :: [b]) X.env = (false, eval a X.env) :: starEach [b] X.env := by rfl) (hst2 : starEach (b :: []) X.env = (false, eval b X.env) :: starEach [] X.env := by rfl) (hpl : (backTo pos (starEach [b] X.env)).any (·.1) = false := by rfl) :
    PI X (.Tuple elts kk tpos) (.Call (.Name "zip" p) [a, b] [] pos) (tI X.K W (iZp f g)) := by
  refine ⟨fun pins s σ H R I h => (pi_zipA hg hm (a_cons ha (a_cons hb a_nil hst2) hst) hst hpl).run pins s σ H R I ?_⟩
  obtain ⟨m, E, S, re, rs, p⟩ := h
  refine ⟨m, E, S, re, rs, ?_⟩
  unfold iZp at p
  simp only [lCons, lNil]
  cases e1 : f E S with
  | exc c fs S1 => rw [e1] at p; exact p
  | bad => rw [e1] at p; exact p
  | ok x S1 =>
    rw [e1] at p
    simp only [Res.bindI_ok] at p
    simp only [Res.bindL]
    cases e2 : g E S1 with
    | exc c fs S1 => rw [e2] at p; exact p
    | bad => rw [e2] at p; exact p
    | ok y S2 =>
      rw [e2] at p
      simp only [Res.bindI_ok] at p
      simp only [ResL.bindL]
      intro H1 m1 vs l1 rs1 rv
      cases rv with
      | cons ra rv =>
        cases rv with
        | cons rb rv =>
          cases rv
          cases ra with
          | tup h1 h2 =>
            cases rb with
            | tup h3 h4 =>
              rename_i a1 ds1 xs1 b1 ds2 xs2
              refine ⟨a1, b1, xs1, xs2, rfl, .inr ⟨h1, h3, p H1 m1 _ l1 rs1 (fun q h => by cases h) (wk_zip (SqX := SqT X.K) (fun _ _ => rfl) (fun _ _ => rfl) (fun _ _ _ _ => rfl) fun H2 m2 S3 l2 rs2 _ => ⟨xs1, xs2, l2.t _ _ h1, l2.t _ _ h3, h2.up l2, h4.up l2⟩)⟩⟩
            | _ => exact (show False from p).elim
          | ref h1 =>
            cases rb with
            | ref h2 =>
              rename_i n1 a1 n2 b1
              simp only [itZip] at p
              cases z1 : S2[n1]? with
              | none => rw [z1] at p; exact (show False from p).elim
              | some c1 =>
                cases z2 : S2[n2]? with
                | none => rw [z1, z2] at p; cases c1 <;> exact (show False from p).elim
                | some c2 =>
                  rw [z1, z2] at p
                  cases c1 with
                  | lst xs1 =>
                    cases c2 with
                    | lst xs2 =>
                      dsimp only at p
                      have get : ∀ H2 m2 S3, Le X.K H1 m1 H2 m2 → RS X.K H2 m2 S3 → srcOk [(n1, xs1), (n2, xs2)] (zipD xs1 xs2) S3 → ∃ vs us, SqL X.K H2 a1 vs ∧ SqL X.K H2 b1 us ∧ RVs X.K H2 m2 xs1 vs ∧ RVs X.K H2 m2 xs2 us := fun H2 m2 S3 l2 rs2 so => by
                        obtain ⟨a', vs, k1, _, k2, k3⟩ := rs2.list (so (n1, xs1) (by simp)) (.ref (l2.m _ _ h1))
                        obtain ⟨b', us, k4, _, k5, k6⟩ := rs2.list (so (n2, xs2) (by simp)) (.ref (l2.m _ _ h2))
                        cases k1
                        cases k4
                        exact ⟨vs, us, SqL.of k2, SqL.of k5, k3, k6⟩
                      have so : srcOk [(n1, xs1), (n2, xs2)] (zipD xs1 xs2) S2 := fun q h => by
                        simp at h
                        rcases h with h | h <;> subst h
                        · exact z1
                        · exact z2
                      obtain ⟨vs, us, k1, k2, _, _⟩ := get H1 m1 S2 Le.refl rs1 so
                      exact ⟨a1, b1, vs, us, rfl, .inl ⟨k1, k2, p H1 m1 _ l1 rs1 so (wk_zip (SqX := SqL X.K) (fun _ _ => rfl) (fun _ _ => rfl) (fun _ _ _ _ => rfl) get)⟩⟩
                    | _ => exact (show False from p).elim
                  | _ => exact (show False from p).elim
            | _ => exact (show False from p).elim
          | _ => exact (show False from p).elim
/-! ## max, min of a list of whole numbers -/
def maxI : List Int → Int
  | [] => 0
  | [x] => x
  | x :: r => if x ≤ maxI r then maxI r else x
def minI : List Int → Int
  | [] => 0
  | [x] => x
  | x :: r => if minI r ≤ x then minI r else x
theorem maxI_mem : ∀ {l : List Int}, 0 < l.length → maxI l ∈ l ∧ ∀ y, y ∈ l → y ≤ maxI l
  | [], h => by simp at h
  | [x], _ => by simp [maxI]
  | x :: y :: r, _ => by
    obtain ⟨h1, h2⟩ := maxI_mem (l := y :: r) (by simp)
    unfold maxI
    split
    · rename_i hz
      refine ⟨List.mem_cons_of_mem _ h1, fun z hzz => ?_⟩
      rcases List.mem_cons.mp hzz with q | q
      · subst q; exact hz
      · exact h2 z q
    · rename_i hz
      refine ⟨List.mem_cons_self, fun z hzz => ?_⟩
      rcases List.mem_cons.mp hzz with q | q
      · subst q; exact Int.le_refl _
      · exact Int.le_trans (h2 z q) (by omega)
theorem minI_mem : ∀ {l : List Int}, 0 < l.length → minI l ∈ l ∧ ∀ y, y ∈ l → minI l ≤ y
  | [], h => by simp at h
  | [x], _ => by simp [minI]
  | x :: y :: r, _ => by
    obtain ⟨h1, h2⟩ := minI_mem (l := y :: r) (by simp)
    unfold minI
    split
    · rename_i hz
      refine ⟨List.mem_cons_of_mem _ h1, fun z hzz => ?_⟩
      rcases List.mem_cons.mp hzz with q | q
      · subst q; exact hz
      · exact h2 z q
    · rename_i hz
      refine ⟨List.mem_cons_self, fun z hzz => ?_⟩
      rcases List.mem_cons.mp hzz with q | q
      · subst q; exact Int.le_refl _
      · exact Int.le_trans (by omega) (h2 z q)
def gMax1 (ds : List D) (S : Sto) : Res := match ds with
  | [d] => (match listOf S d with
    | some xs => (match intsOf xs with
      | some bs => if 0 < bs.length then .ok (.int (maxI bs)) S else .bad
      | none => .bad)
    | none => .bad)
  | _ => .bad
def gMin1 (ds : List D) (S : Sto) : Res := match ds with
  | [d] => (match listOf S d with
    | some xs => (match intsOf xs with
      | some bs => if 0 < bs.length then .ok (.int (minI bs)) S else .bad
      | none => .bad)
    | none => .bad)
  | _ => .bad
theorem c_max1 (hc : X.calm = true) : OC X (.builtin "max") gMax1 := by
  refine oc1 (fun S ds h => ?_) fun W pins s σ H m S d x us Q I rs rd r p => ?_
  · unfold gMax1
    split <;> first
      | exact absurd rfl (h _)
      | rfl
  · have p' : PV X.K W H m σ (match listOf S d with | some xs => (match intsOf xs with | some bs => if 0 < bs.length then .ok (.int (maxI bs)) S else .bad | none => .bad) | none => .bad) Q := p
    cases e1 : listOf S d with
    | none => rw [e1] at p'; exact p'.elim
    | some xs =>
      rw [e1] at p'
      dsimp only at p'
      cases e2 : intsOf xs with
      | none => rw [e2] at p'; exact p'.elim
      | some bs =>
        rw [e2] at p'
        obtain ⟨a, vs, rfl, h1, h2⟩ := list_at rs rd e1
        rw [intsOf_eq e2] at h2
        rw [h2.ints] at h1
        dsimp only at p'
        by_cases hz : 0 < bs.length
        · rw [if_pos hz] at p'
          refine cr_max hc pins s σ H _ us Q I r ⟨a, bs, rfl, h1, hz, fun mx hm hle => ?_⟩
          obtain ⟨k1, k2⟩ := maxI_mem hz
          rw [Int.le_antisymm (k2 mx hm) (hle _ k1)]
          exact p' H m _ Le.refl rs (.int _)
        · rw [if_neg hz] at p'; exact p'.elim
theorem c_min1 (hc : X.calm = true) : OC X (.builtin "min") gMin1 := by
  refine oc1 (fun S ds h => ?_) fun W pins s σ H m S d x us Q I rs rd r p => ?_
  · unfold gMin1
    split <;> first
      | exact absurd rfl (h _)
      | rfl
  · have p' : PV X.K W H m σ (match listOf S d with | some xs => (match intsOf xs with | some bs => if 0 < bs.length then .ok (.int (minI bs)) S else .bad | none => .bad) | none => .bad) Q := p
    cases e1 : listOf S d with
    | none => rw [e1] at p'; exact p'.elim
    | some xs =>
      rw [e1] at p'
      dsimp only at p'
      cases e2 : intsOf xs with
      | none => rw [e2] at p'; exact p'.elim
      | some bs =>
        rw [e2] at p'
        obtain ⟨a, vs, rfl, h1, h2⟩ := list_at rs rd e1
        rw [intsOf_eq e2] at h2
        rw [h2.ints] at h1
        dsimp only at p'
        by_cases hz : 0 < bs.length
        · rw [if_pos hz] at p'
          refine cr_min hc pins s σ H _ us Q I r ⟨a, bs, rfl, h1, hz, fun mx hm hle => ?_⟩
          obtain ⟨k1, k2⟩ := minI_mem hz
          rw [Int.le_antisymm (hle _ k1) (k2 mx hm)]
          exact p' H m _ Le.refl rs (.int _)
        · rw [if_neg hz] at p'; exact p'.elim
end
end Z
namespace HT
open PySem PySem.Spec PyProof.Rows L2
section
variable {prog : Program} {w : World} {A : Around} {E : Value → Shared → Prop} {s : Shared}
theorem adjust_back (n : Nat) : Builtin.Slice.sliceAdjust none none (-1) (n : Int) = ((n : Int) - 1, -1) := by
  simp [Builtin.Slice.sliceAdjust]
theorem places_back (n : Nat) : Builtin.Slice.slicePlaces ((n : Int) - 1) (-1) (-1) = n := by
  unfold Builtin.Slice.slicePlaces
  have h1 : ¬ ((-1 : Int) > 0) := by omega
  simp only [h1, if_false]
  split
  · have : -(-1 : Int) = 1 := rfl
    rw [this, Int.ediv_one]
    omega
  · omega
theorem sliceApplied_back {sl : Addr} {vl vu vs : Value} {n : Nat} {Q : Int × Int × Nat → Shared → Prop} (hs : s.heap.IsSliceOf sl vl vu vs) (pl : IsPart vl none) (pu : IsPart vu none) (ps : IsPart vs (some (-1)))
    (h : Q ((n : Int) - 1, -1, n) s) : wpAny (model prog w) A (Builtin.Slice.sliceApplied (.ref sl) (pure (n : Int))) Q E s := by
  obtain ⟨os, hos, hcs, hds⟩ := id hs
  unfold Builtin.Slice.sliceApplied Builtin.Slice.sliceFields
  refine wpAny_bind (wpAny_bind (wpAny_field hos hds (x := vl) rfl (wpAny_bind (wpAny_field hos hds (x := vu) rfl (wpAny_bind (wpAny_field hos hds (x := vs) rfl (wpAny_pure ?_)))))))
  refine wpAny_bind (slicePart_ ps ?_)
  show wpAny _ _ (if ((-1 : Int) == 0) = true then _ else _) _ _ s
  rw [if_neg (by decide)]
  refine wpAny_bind (slicePart_ pl (wpAny_bind (slicePart_ pu (wpAny_bind (wpAny_pure ?_)))))
  show wpAny _ _ (match Builtin.Slice.sliceAdjust none none (-1) (n : Int) with | (lo, hi) => pure (lo, (-1 : Int), Builtin.Slice.slicePlaces lo hi (-1))) _ _ s
  rw [adjust_back n]
  show wpAny _ _ (pure ((n : Int) - 1, (-1 : Int), Builtin.Slice.slicePlaces ((n : Int) - 1) (-1) (-1))) _ _ s
  rw [places_back]
  exact wpAny_pure h
theorem pick_back (xs : Array Value) : ((List.range xs.size).filterMap fun (m : Nat) => xs[(((xs.size : Int) - 1) + (m : Int) * (-1)).toNat]?).toArray = xs.toList.reverse.toArray := by
  have key : ∀ l : List Value, (List.range l.length).filterMap (fun (m : Nat) => l[(((l.length : Int) - 1) + (m : Int) * (-1)).toNat]?) = l.reverse := fun l => by
    apply List.ext_getElem?
    intro i
    have e : (List.range l.length).filterMap (fun (m : Nat) => l[(((l.length : Int) - 1) + (m : Int) * (-1)).toNat]?) = (List.range l.length).map fun m => l.reverse.getD m default := by
      have : ∀ k, k ≤ l.length → (List.range k).filterMap (fun (m : Nat) => l[(((l.length : Int) - 1) + (m : Int) * (-1)).toNat]?) = (List.range k).map fun m => l.reverse.getD m default := fun k => by
        induction k with
        | zero => intro _; rfl
        | succ k ih =>
          intro hk
          rw [List.range_succ, List.filterMap_append, List.map_append, ih (by omega)]
          congr 1
          have z : ((((l.length : Int) - 1) + (k : Int) * (-1)).toNat) = l.length - 1 - k := by omega
          have hl : l.length - 1 - k < l.length := by omega
          simp only [List.filterMap_cons, List.filterMap_nil, List.map_cons, List.map_nil, z, List.getElem?_eq_getElem hl]
          rw [List.getD_eq_getElem?_getD, List.getElem?_reverse (by omega), List.getElem?_eq_getElem hl]
          rfl
      exact this _ (Nat.le_refl _)
    rw [e, List.getElem?_map]
    by_cases hi : i < l.length
    · rw [List.getElem?_range hi, Option.map_some, List.getD_eq_getElem?_getD, List.getElem?_eq_getElem (by simpa using hi)]
      rfl
    · rw [List.getElem?_eq_none (by simpa using hi), List.getElem?_eq_none (by simpa using hi)]
      rfl
  have := key xs.toList
  rw [← this]
  simp
theorem getItem_tuple_back {t sl : Addr} {items : Array Value} {vl vu vs : Value} {Q : Value → Shared → Prop} (ht : IsTup s.heap t items) (hs : s.heap.IsSliceOf sl vl vu vs) (pl : IsPart vl none) (pu : IsPart vu none) (ps : IsPart vs (some (-1)))
    (h : Q (.ref s.heap.objs.size) { s with heap := s.heap.push { cls := .type "tuple", data := .seq items.toList.reverse.toArray } })
    (hsz : items.size ≤ sizeLine) : wpAny (model prog w) A (getItem (.ref t) (.ref sl)) Q E s := by
  have htake : sizeOk (.seq items.toList.reverse.toArray) := by
    show items.toList.reverse.toArray.size ≤ sizeLine
    rw [List.size_toArray, List.length_reverse, Array.length_toList]
    exact hsz
  obtain ⟨os, hos, hcs, hds⟩ := id hs
  have hTs : s.TypeIs (.ref sl) "slice" := ⟨os, hos, hcs⟩
  unfold getItem
  try with_reducible refine wpAny_holding ?_
  first | refine wpAny_bind (wpAny_pure ?_) | skip
  refine wpAny_bind (wpAny_sequenceKey ht.typeIs (by decide) ?_)
  refine wpAny_bind (wpAny_callSpecial?_slot (name := Str.ofString "__getitem__") ht.typeIs PyProof.Rows.slot_tuple_getitem
    (wpAny_call_entry PyProof.Rows.slot_tuple_getitem ht.typeIs entry_tuple_getitem ?_ (args_tuple_getitem _ _)))
  show wpAny _ _ (Builtin.Tuple.tupleItemsOf (.ref t) >>= _) _ _ s
  refine wpAny_bind (tupleItemsOf_ ht ?_)
  refine wpAny_bind (wpAny_typeOf hTs ?_)
  rw [if_pos (by decide)]
  refine wpAny_bind (sliceApplied_back hs pl pu ps ?_)
  show wpAny _ _ (if ((((items.size : Int) - 1) == 0 && (-1 : Int) == 1 && items.size == items.size)) = true then _ else _) _ _ s
  rw [if_neg (by rw [Bool.and_eq_true, Bool.and_eq_true]; exact fun q => absurd q.1.2 (by decide)), pick_back]
  first
    | exact wpAny_bind (m := Builtin.Tuple.tupleExact _) (wpAny_newObj_type (wpAny_pure ⟨_, rfl, wpAny_pure h⟩) htake)
    | exact wpAny_bind (m := Builtin.Tuple.tupleExact _) (wpAny_newObj_type (wpAny_bind (wpAny_pure (wpAny_pure ⟨_, rfl, wpAny_pure h⟩))) htake)
    | exact wpAny_bind (wpAny_bind (m := Builtin.Tuple.tupleExact _) (wpAny_newObj_type (wpAny_pure (wpAny_pure ⟨_, rfl, wpAny_pure h⟩)) htake))
    | exact wpAny_bind (wpAny_bind (m := Builtin.Tuple.tupleExact _) (wpAny_newObj_type (wpAny_pure ⟨_, rfl, wpAny_pure h⟩) htake))
end
end HT
namespace Z
open PySem PySem.Spec PyProof.Rows L2
/-! ## t[::-1] of a tuple; a tuple beside the empty one -/
def gRevT (d : D) (S : Sto) : Res := match d with
  | .tup xs => .ok (.tup xs.reverse) S
  | _ => .bad
def tRevT (K : PySem.W.Frag) (te : TE) : TE := fun σ H Q => te σ H fun x H1 => ∃ a xs, x = .ref a ∧ SqT K H1 a xs ∧ ∀ p, H1 p = none → Q (.ref p) (upd H1 p (.tup xs.reverse))
section
variable {X : Cx} {W : WX}
theorem pe_revT {e : Expr} {te : TE} {k : Nat} {p1 p2 p3 pos : Pos} (he : PE X e te) : PE X (.Subscript e (.Slice none none (some (.UnaryOp .USub (.Constant (.int 1) k p1) p2)) p3) pos) (tRevT X.K te) := by
  refine ⟨fun pins s σ H Q I h => ?_⟩
  refine Subscript_ (thn (he.run pins s σ H _ I h) fun v s1 ⟨x, H1, I1, r1, q1⟩ => ?_)
  obtain ⟨a, xs, ex, hx, q⟩ := q1
  subst ex
  cases r1
  have hst : PO X (some (.UnaryOp .USub (.Constant (.int 1) k p1) p2)) (tPart (tUn (rU fun i => .int (-i)) (tC (.int 1)))) := po_some (pe_un un_neg pe_int)
  refine wpAny_Slice (thn (po_none.run pins s1 σ H1 (fun o H2 => o = none ∧ H2 = H1) I1 ⟨rfl, rfl⟩) fun vl s2 ⟨l, H2, I2, pl, el, e2⟩ => ?_)
  subst el e2
  refine thn (po_none.run pins s2 σ H2 (fun o H3 => o = none ∧ H3 = H2) I2 ⟨rfl, rfl⟩) fun vu s3 ⟨u, H3, I3, pu, eu, e3⟩ => ?_
  subst eu e3
  refine thn (hst.run pins s3 σ H3 (fun o H4 => o = some (-1) ∧ H4 = H3) I3 ⟨1, rfl, -1, rfl, rfl, rfl⟩) fun vs s4 ⟨o, H4, I4, ps, eo, e4⟩ => ?_
  subst eo e4
  have I5 : Inv X pins σ H4 { s4 with heap := s4.heap.push { cls := .type "slice", data := .fields #[vl, vu, vs] } } := I4.kept (t' := s4.toks) fun b ob q => Heap.get?_push_of_some _ q
  obtain ⟨its, r, ht, hz⟩ := I5.tuple hx
  have hlen : its.toArray.size = xs.length := by rw [List.size_toArray]; exact r.length.symm
  show wpAny (model X.prog X.w) X.A (subscriptTail e (.Slice none none (some (.UnaryOp .USub (.Constant (.int 1) k p1) p2)) p3) (.ref a) (.ref s4.heap.objs.size)) (EP X pins σ Q) X.xe { s4 with heap := s4.heap.push { cls := .type "slice", data := .fields #[vl, vu, vs] } }
  refine tail_any (ops := [.ref a, .ref s4.heap.objs.size]) ht.typeIs (PyProof.Rows.slot_tuple_getitem.lookup) ?_ (by with_unfolding_all rfl)
  refine HT.getItem_tuple_back ht (Heap.IsSliceOf.new _ vl vu vs) pl pu ps ?_ (by rw [hlen]; exact hz)
  refine ⟨.ref _, _, I5.laid (t' := s4.toks) (o := .tup xs.reverse) (fun b ob q => Heap.get?_push_of_some _ q) (Nat.le_refl _) ?_, rfl, q _ (I5.hok.fresh (Nat.le_refl _))⟩
  exact ⟨by rw [List.length_reverse]; exact hz, _, r.reverse, IsTup.new _ _⟩
theorem e_revT {e : Expr} {f : FE} {k : Nat} {p1 p2 p3 pos : Pos} (he : PE X e (tE X.K W f)) : PE X (.Subscript e (.Slice none none (some (.UnaryOp .USub (.Constant (.int 1) k p1) p2)) p3) pos) (tE X.K W (vUn gRevT f)) := by
  refine ⟨fun pins s σ H Q I hq => (pe_revT he).run pins s σ H Q I ?_⟩
  refine (tE.then (k := fun _ d S1 => gRevT d S1) hq).mono fun v H1 ⟨m, E, S, d, re, rs, rv, p⟩ => ?_
  try dsimp only at p
  cases rv with
  | tup h1 h2 =>
    refine ⟨_, _, rfl, h1, fun q hq => ?_⟩
    exact p _ m _ (Le.new hq) (rs.side hq) (.tup (SqT.of upd_same) (h2.rev.up (Le.new hq)))
  | _ => exact p.elim
/-- x == (), x != () of a tuple x, whatever it has -/
def gEq0 (d e : D) (S : Sto) : Res := match d, e with
  | .tup xs, .tup [] => .ok (.bl xs.isEmpty) S
  | _, _ => .bad
def gNe0 (d e : D) (S : Sto) : Res := match d, e with
  | .tup xs, .tup [] => .ok (.bl (!xs.isEmpty)) S
  | _, _ => .bad
theorem all_emp {ds : List D} {its : List Value} (hl : its.length = ds.length) : ((List.range (min its.toArray.size (#[] : Array Value).size)).all (fun _ => true) && its.toArray.size == (#[] : Array Value).size) = ds.isEmpty := by
  cases ds with
  | nil => cases its with
    | nil => rfl
    | cons => simp at hl
  | cons => cases its with
    | nil => simp at hl
    | cons => simp
theorem o_eq0 (hu : X.A.units + 64 < cLine) : O2 X (compareOp .Eq) gEq0 := by
  intro W pins s σ H m S d e x y v u Q I rs rd re rx ry p
  cases rd with
  | tup h1 h2 =>
    cases re with
    | tup h3 h4 =>
      cases h4 with
      | nil =>
        cases rx
        cases ry
        obtain ⟨its, r, ht, hz⟩ := I.tuple h1
        obtain ⟨its2, r2, ht2, hz2⟩ := I.tuple h3
        cases r2
        refine PySem.SeqAt.eq_tupleAt (e := fun _ => true) ht ht2 (by omega) (fun j h1 h2 => by simp at h2) ?_
        rw [all_emp (by rw [h2.len]; exact r.length.symm)]
        exact ⟨.bl _, H, I, rfl, p H m _ Le.refl rs (.bl _)⟩
      | cons _ _ => exact p.elim
    | _ => exact p.elim
  | _ => cases re <;> exact p.elim
theorem o_ne0 (hu : X.A.units + 64 < cLine) : O2 X (compareOp .NotEq) gNe0 := by
  intro W pins s σ H m S d e x y v u Q I rs rd re rx ry p
  cases rd with
  | tup h1 h2 =>
    cases re with
    | tup h3 h4 =>
      cases h4 with
      | nil =>
        cases rx
        cases ry
        obtain ⟨its, r, ht, hz⟩ := I.tuple h1
        obtain ⟨its2, r2, ht2, hz2⟩ := I.tuple h3
        cases r2
        refine PySem.SeqAt.RcNeAt.tuples (e := fun _ => true) ht ht2 (by omega) (fun j h1 h2 => by simp at h2) _ _ _ _ ?_
        rw [all_emp (by rw [h2.len]; exact r.length.symm)]
        exact ⟨.bl _, H, I, rfl, p H m _ Le.refl rs (.bl _)⟩
      | cons _ _ => exact p.elim
    | _ => exact p.elim
  | _ => cases re <;> exact p.elim
end
end Z
namespace Z
open PySem PySem.Spec PyProof.Rows L2
/-! ## repr of whatever is made of lists, tuples, empty dicts -/
/-- read, and shown, with the places that it is made of -/
def Shw (h : Heap) (u : Value) (p : PyData) : Prop := ∃ as bs, Reads h u p as ∧ ReadAtMost h p.depth bs ∧ (p.showable = true → p.shown.length ≤ sizeLine → ∀ prog w, ReprK prog w bs h p.depth u p.shown)
def ShwA (h : Heap) (us : List Value) (ps : List PyData) : Prop := ∃ as bs, ReadsAll h us ps as ∧ ReadAtMost h (PyData.depthAll ps) bs ∧ (PyData.showableAll ps = true → (∀ t ∈ PyData.shownAll ps, t.length ≤ sizeLine) → ∀ prog w, ReprAllK prog w bs h (PyData.depthAll ps) us (PyData.shownAll ps))
section
variable {h : Heap}
theorem ram_le {n m : Nat} {bs : List Addr} (k : ReadAtMost h n bs) (l : n ≤ m) : ReadAtMost h m bs := fun b hb => by
  obtain ⟨d, as, r, e⟩ := k b hb
  exact ⟨d, as, r, Nat.le_trans e l⟩
theorem ram_app {n : Nat} {bs cs : List Addr} (k : ReadAtMost h n bs) (l : ReadAtMost h n cs) : ReadAtMost h n (bs ++ cs) := fun b hb => (List.mem_append.mp hb).elim (k b) (l b)
theorem shwA_nil : ShwA h [] [] := ⟨[], [], .nil, fun b hb => (nomatch hb), fun _ _ _ _ => by simp only [PyData.shownAll]; exact ReprAllK.nil⟩
theorem shwA_cons {u : Value} {p : PyData} {us : List Value} {ps : List PyData} (a : Shw h u p) (b : ShwA h us ps) : ShwA h (u :: us) (p :: ps) := by
  obtain ⟨as, bs, r1, r2, r3⟩ := a
  obtain ⟨cs, ds, q1, q2, q3⟩ := b
  have l1 : p.depth ≤ PyData.depthAll (p :: ps) := by simp only [PyData.depthAll]; exact Nat.le_max_left _ _
  have l2 : PyData.depthAll ps ≤ PyData.depthAll (p :: ps) := by simp only [PyData.depthAll]; exact Nat.le_max_right _ _
  refine ⟨as ++ cs, bs ++ ds, .cons r1 q1, ram_app (ram_le r2 l1) (ram_le q2 l2), fun hs ht prog w => ?_⟩
  have hs2 : p.showable = true ∧ PyData.showableAll ps = true := by simpa [PyData.showableAll] using hs
  have k1 := r3 hs2.1 (ht _ (by simp [PyData.shownAll])) prog w
  have k2 := q3 hs2.2 (fun t hm => ht t (by simp [PyData.shownAll, hm])) prog w
  have k3 := (k1.more (as' := bs ++ ds) fun x hx => List.mem_append.mpr (.inl hx)).level_le l1
  have k4 := k2.more_le (as' := bs ++ ds) (fun x hx => List.mem_append.mpr (.inr hx)) l2
  simp only [PyData.shownAll]
  exact ReprAllK.cons k3 k4
theorem shw_tup {a : Addr} {o : Obj} {vs : Array Value} {n : Nat} {ps : List PyData} (h1 : h.get? a = some o) (h2 : o.cls = .type "tuple") (h3 : o.data = .seq vs n) (k : ShwA h vs.toList ps) : Shw h (.ref a) (.tuple ps) := by
  obtain ⟨as, bs, r1, r2, r3⟩ := k
  have rd : Reads h (.ref a) (.tuple ps) as := .tuple h1 h2 h3 r1
  have dp : (PyData.tuple ps).depth = PyData.depthAll ps + 1 := by simp only [PyData.depth]
  have nin : a ∉ bs := not_mem_of_deeper rd (by rw [dp]; exact Nat.lt_succ_self _) r2
  refine ⟨as, a :: bs, rd, ReadAtMost.cons rd (by rw [dp]; exact Nat.le_succ _) r2, fun hs hz prog w => ?_⟩
  have sz : (tupleText (PyData.shownAll ps)).length ≤ sizeLine := by simpa only [PyData.shown] using hz
  have kk := r3 (by simpa [PyData.showable] using hs) (fun t ht => Nat.le_trans (tupleText_mem_le ht) sz) prog w
  rw [dp]
  simp only [PyData.shown]
  exact ReprK.tuple h1 h2 h3 nin kk
theorem shw_lst {a : Addr} {o : Obj} {vs : List Value} {n : Nat} {ps : List PyData} (h1 : h.get? a = some o) (h2 : o.cls = .type "list") (h3 : o.data = .seq vs.toArray n) (k : ShwA h vs ps) : Shw h (.ref a) (.list ps) := by
  obtain ⟨as, bs, r1, r2, r3⟩ := k
  have rd : Reads h (.ref a) (.list ps) (a :: as) := .list h1 h2 h3 r1
  have dp : (PyData.list ps).depth = PyData.depthAll ps + 1 := by simp only [PyData.depth]
  have nin : a ∉ bs := not_mem_of_deeper rd (by rw [dp]; exact Nat.lt_succ_self _) r2
  refine ⟨a :: as, a :: bs, rd, ReadAtMost.cons rd (by rw [dp]; exact Nat.le_succ _) r2, fun hs hz prog w => ?_⟩
  have sz : (listText (PyData.shownAll ps)).length ≤ sizeLine := by simpa only [PyData.shown] using hz
  have kk := r3 (by simpa [PyData.showable] using hs) (fun t ht => Nat.le_trans (listText_mem_le ht) sz) prog w
  rw [dp]
  simp only [PyData.shown]
  cases vs with
  | nil =>
    cases r1
    simp only [PyData.shownAll, listText_nil]
    exact ReprK.listEmpty h1 h2 h3
  | cons x l => exact ReprK.list h1 h2 h3 nin (by simpa using kk.length_eq) fun i y e => kk.item i y (by simpa using e)
theorem shw_emp {a : Addr} {o : Obj} {es : Array DictEntry} {n : Nat} (h1 : h.get? a = some o) (h2 : o.cls = .type "dict") (h3 : o.data = .dict es n) (he : es.toList = []) (ns : (a == sysModules) = false) : Shw h (.ref a) (.dict []) := by
  have rd : Reads h (.ref a) (.dict []) (a :: [] ++ []) := .dict h1 h2 h3 (by rw [he]; exact .nil) (by rw [he]; exact .nil)
  refine ⟨_, [a], rd, fun b hb => ⟨_, _, by simp at hb; subst hb; exact rd, Nat.le_refl _⟩, fun hs hz prog w => ?_⟩
  have dp : (PyData.dict []).depth = 0 + 1 := by simp [PyData.depth, PyData.depthKv]
  rw [dp]
  have q := ReprK.dict (prog := prog) (w := w) (as := []) (d := 0) (ps := []) h1 h2 h3 ns (by simp) (by rw [he]; exact .nil)
  simpa [PyData.shown, PyData.shownKv] using q
end
section
variable {X : Cx} {pins : List (Addr × Obj)} {σ : L2.St} {H : Hp} {s : Shared} {m : List Addr} {S : Sto}
theorem shwA_of {h : Heap} {k : Nat} (ih : ∀ {d : D} {v : V} {u : Value} {p : PyData}, RV X.K H m d v → RelV v u → toPD S k d = some p → Shw h u p) :
    ∀ {ds : List D} {vs : List V} {us : List Value} {ps : List PyData}, RVs X.K H m ds vs → Vals vs us → optAll (toPD S k) ds = some ps → ShwA h us ps
  | _, _, _, _, .nil, .nil, e => by
    simp only [optAll, Option.some.injEq] at e
    subst e
    exact shwA_nil
  | d :: ds, _, _, ps, .cons r t, .cons ru tu, e => by
    simp only [optAll] at e
    cases e1 : toPD S k d with
    | none => rw [e1] at e; cases e
    | some p =>
      cases e2 : optAll (toPD S k) ds with
      | none => rw [e1, e2] at e; cases e
      | some qs =>
        rw [e1, e2] at e
        cases e
        exact shwA_cons (ih r ru e1) (shwA_of ih t tu e2)
theorem shw_of (I : Inv X pins σ H s) (rs : RS X.K H m S) : ∀ {k : Nat} {d : D} {v : V} {u : Value} {p : PyData}, RV X.K H m d v → RelV v u → toPD S k d = some p → Shw s.heap u p
  | 0, _, _, _, _, _, _, e => by cases e
  | k + 1, d, v, u, p, r, ru, e => by
    have lists : ∀ {a : Addr} {vs : List V} {xs : List D} {ps : List PyData}, u = .ref a → SqL X.K H a vs → RVs X.K H m xs vs → optAll (toPD S k) xs = some ps → Shw s.heap u (.list ps) := fun {a vs xs ps} eu h1 h2 h3 => by
      subst eu
      obtain ⟨its, rv, ⟨o, n, ho, hc, _, hd⟩, _⟩ := I.list h1
      exact shw_lst ho hc hd (shwA_of (fun r ru e => shw_of I rs r ru e) h2 rv h3)
    have small : ∀ {p : PyData}, p.depth = 0 → Reads s.heap u p [] → (p.showable = true → p.shown.length ≤ sizeLine → ∀ prog w, ReprIs prog w u p.shown) → Shw s.heap u p := fun {p} hd hr hi =>
      ⟨[], [], hr, fun b hb => (nomatch hb), fun hs hz prog w => .of_is (hi hs hz prog w) _ _ _⟩
    cases r with
    | non => simp only [toPD, Option.some.injEq] at e; subst e; cases ru; exact small rfl .none fun _ _ _ _ => ReprIs.none
    | bl b => simp only [toPD, Option.some.injEq] at e; subst e; cases ru; exact small rfl (.bool b) fun _ _ _ _ => ReprIs.bool b
    | int i => simp only [toPD, Option.some.injEq] at e; subst e; obtain ⟨t, rfl⟩ := ru; exact small rfl (.int i t) fun hs _ _ _ => ReprIs.int t (by simpa [PyData.showable] using hs)
    | str x => simp only [toPD, Option.some.injEq] at e; subst e; obtain ⟨t, rfl⟩ := ru; exact small rfl (.str x t) fun _ hz _ _ => ReprIs.str x t (by simpa only [PyData.shown] using hz)
    | tup h1 h2 =>
      simp only [toPD, Option.map_eq_some_iff] at e
      obtain ⟨ps, h3, rfl⟩ := e
      cases ru
      obtain ⟨its, rv, ⟨o, ho, hc, n, hd⟩, _⟩ := I.tuple h1
      exact shw_tup ho hc hd (shwA_of (fun r ru e => shw_of I rs r ru e) h2 (by simpa using rv) h3)
    | fl h1 h2 =>
      simp only [toPD, Option.map_eq_some_iff] at e
      obtain ⟨ps, h3, rfl⟩ := e
      exact lists ru h1.sq h2 h3
    | emp h1 =>
      simp only [toPD, Option.some.injEq] at e
      subst e
      cases ru
      obtain ⟨_, hs, vs, kv, o, es, ep, ho, hx, hd, hk, hp, _⟩ := I.hok _ _ h1
      cases kv
      have he : es.toList = [] := by
        generalize es.toList = l at hp
        cases hp
        rfl
      exact shw_emp ho hx.1 hd he hs
    | ref h1 =>
      rename_i n a
      simp only [toPD] at e
      cases z : S[n]? with
      | none => rw [z] at e; cases e
      | some c =>
        rw [z] at e
        cases c with
        | lst xs =>
          simp only [Option.map_eq_some_iff] at e
          obtain ⟨ps, h3, rfl⟩ := e
          obtain ⟨a', vs, e1, q2, q3, q4⟩ := rs.list z (.ref h1)
          cases e1
          exact lists ru (SqL.of q3) q4 h3
        | exc c fs => cases e
        | ins c fs => cases e
/-! the call -/
def gRepr2 (ds : List D) (S : Sto) : Res := match ds with
  | [d] => (match toPD S 40 d with
    | some p => if p.showable && decide (p.depth ≤ 60) && decide (p.shown.length ≤ sizeLine) then .ok (.str p.shown) S else .bad
    | none => .bad)
  | _ => .bad
section
variable {prog : Program} {w : World} {A : Around} {E : Value → Shared → Prop} {t : Shared} {Q : Value → Shared → Prop}
theorem callT {a : Addr} {o : Obj} {vs : Array Value} {n : Nat} {ps : List PyData} (h1 : t.heap.get? a = some o) (h2 : o.cls = .type "tuple") (h3 : o.data = .seq vs n) (k : ShwA t.heap vs.toList ps) (hs : PyData.showableAll ps = true) (hz : (tupleText (PyData.shownAll ps)).length ≤ sizeLine)
    (hg : A.guards = some []) (hu : A.units + (PyData.depthAll ps + 2) < cLine) (hQ : ∀ h' u tk, (∀ b o, t.heap.get? b = some o → h'.get? b = some o) → Q (.str (tupleText (PyData.shownAll ps)) u) { t with heap := h', toks := tk }) :
    wpAny (model prog w) A (call (.builtin "repr") [.ref a]) Q E t := by
  obtain ⟨as, bs, r1, r2, r3⟩ := k
  have rd : Reads t.heap (.ref a) (.tuple ps) as := .tuple h1 h2 h3 r1
  have dp : (PyData.tuple ps).depth = PyData.depthAll ps + 1 := by simp only [PyData.depth]
  have nin : a ∉ bs := not_mem_of_deeper rd (by rw [dp]; exact Nat.lt_succ_self _) r2
  have kk := r3 hs (fun t ht => Nat.le_trans (tupleText_mem_le ht) hz) prog w
  refine call_repr_slot (by omega) ⟨o, h1, h2⟩ F.slot_tuple_repr (call_tuple_reprK h1 h2 h3 nin kk (A := A.in1) hg (fun b _ => Clear.nil b) (by show A.units + 1 + (PyData.depthAll ps + 1) < cLine; omega) (fun _ _ e => e) (fun h' u tk hk => ⟨_, _, rfl, hQ h' u tk hk⟩) hz)
theorem callL {a : Addr} {o : Obj} {vs : List Value} {n : Nat} {ps : List PyData} (h1 : t.heap.get? a = some o) (h2 : o.cls = .type "list") (h3 : o.data = .seq vs.toArray n) (k : ShwA t.heap vs ps) (hs : PyData.showableAll ps = true) (hz : (listText (PyData.shownAll ps)).length ≤ sizeLine)
    (hg : A.guards = some []) (hu : A.units + (PyData.depthAll ps + 2) < cLine) (hQ : ∀ h' u tk, (∀ b o, t.heap.get? b = some o → h'.get? b = some o) → Q (.str (listText (PyData.shownAll ps)) u) { t with heap := h', toks := tk }) :
    wpAny (model prog w) A (call (.builtin "repr") [.ref a]) Q E t := by
  obtain ⟨as, bs, r1, r2, r3⟩ := k
  have rd : Reads t.heap (.ref a) (.list ps) (a :: as) := .list h1 h2 h3 r1
  have dp : (PyData.list ps).depth = PyData.depthAll ps + 1 := by simp only [PyData.depth]
  have nin : a ∉ bs := not_mem_of_deeper rd (by rw [dp]; exact Nat.lt_succ_self _) r2
  have kk := r3 hs (fun t ht => Nat.le_trans (listText_mem_le ht) hz) prog w
  cases vs with
  | nil =>
    cases r1
    simp only [PyData.shownAll, listText_nil] at hQ
    exact call_repr_slot (by omega) ⟨o, h1, h2⟩ F.slot_list_repr.toG (call_list_repr_empty ⟨o, h1, h2⟩ h1 h3 ⟨_, _, rfl, hQ t.heap _ _ fun _ _ e => e⟩)
  | cons x l =>
    exact call_repr_slot (by omega) ⟨o, h1, h2⟩ F.slot_list_repr.toG (call_list_reprK h1 h2 h3 nin (by simpa using kk.length_eq) (fun i y e => kk.item i y (by simpa using e)) (A := A.in1) hg (fun b _ => Clear.nil b) (by show A.units + 1 + (PyData.depthAll ps + 1) < cLine; omega) (fun _ _ e => e) (fun h' u tk hk => ⟨_, _, rfl, hQ h' u tk hk⟩) hz)
end
theorem gRepr2_one (d : D) (S : Sto) : gRepr2 [d] S = (match toPD S 40 d with
    | some p => if p.showable && decide (p.depth ≤ 60) && decide (p.shown.length ≤ sizeLine) then .ok (.str p.shown) S else .bad
    | none => .bad) := by
  unfold gRepr2
  rfl
theorem gRepr2_not (ds : List D) (S : Sto) (h : ∀ d, ds ≠ [d]) : gRepr2 ds S = .bad := by
  unfold gRepr2
  split
  · exact absurd rfl (h _)
  · rfl
theorem repr2_core (hg : X.A.guards = some []) (hu : X.A.units + 64 < cLine) {k : Nat} {d : D} {v : V} {u : Value} {pd : PyData} (I : Inv X pins σ H s) (rs : RS X.K H m S) (rd : RV X.K H m d v) (ru : RelV v u) (e1 : toPD S (k + 1) d = some pd) (z1 : pd.showable = true) (z3 : pd.depth ≤ 60) (z4 : pd.shown.length ≤ sizeLine)
    {Q : Value → Shared → Prop} {xe : Value → Shared → Prop} (fin : ∀ (h' : Heap) (v : Tok) (tk : Nat), (∀ b o, s.heap.get? b = some o → h'.get? b = some o) → Q (.str pd.shown v) { s with heap := h', toks := tk }) :
    wpAny (model X.prog X.w) X.A (call (.builtin "repr") [u]) Q xe s := by
  have lists : ∀ {a : Addr} {vs : List V} {xs : List D} {ps : List PyData}, u = .ref a → SqL X.K H a vs → RVs X.K H m xs vs → optAll (toPD S k) xs = some ps → pd = .list ps → wpAny (model X.prog X.w) X.A (call (.builtin "repr") [u]) Q xe s := fun {a vs xs ps} eu h1 h2 h3 ep => by
    subst eu
    subst ep
    obtain ⟨its, rv, ⟨o, n, ho, hc, _, hd⟩, _⟩ := I.list h1
    have dp : (PyData.list ps).depth = PyData.depthAll ps + 1 := by simp only [PyData.depth]
    rw [dp] at z3
    simp only [PyData.shown] at z4 fin
    exact callL ho hc hd (shwA_of (fun r ru e => shw_of I rs r ru e) h2 rv h3) (by simpa [PyData.showable] using z1) z4 hg (by omega) fin
  cases rd with
  | non => simp only [toPD, Option.some.injEq] at e1; subst e1; cases ru; exact PySem.P.repr_of_none (fin _ _ _ fun _ _ e => e)
  | bl b => simp only [toPD, Option.some.injEq] at e1; subst e1; cases ru; exact PySem.P.repr_of_bool (fin _ _ _ fun _ _ e => e)
  | int i => simp only [toPD, Option.some.injEq] at e1; subst e1; obtain ⟨t, rfl⟩ := ru; exact PySem.P.repr_of_int (by simpa [PyData.showable] using z1) (fin _ _ _ fun _ _ e => e)
  | str i => simp only [toPD, Option.some.injEq] at e1; subst e1; obtain ⟨t, rfl⟩ := ru; exact PySem.P.repr_of_str (fin _ _ _ fun _ _ e => e) (by simpa only [PyData.shown] using z4)
  | tup h1 h2 =>
    simp only [toPD, Option.map_eq_some_iff] at e1
    obtain ⟨ps, h3, rfl⟩ := e1
    cases ru
    obtain ⟨its, rv, ⟨o, ho, hc, n, hd⟩, _⟩ := I.tuple h1
    have dp : (PyData.tuple ps).depth = PyData.depthAll ps + 1 := by simp only [PyData.depth]
    rw [dp] at z3
    simp only [PyData.shown] at z4 fin
    exact callT ho hc hd (shwA_of (fun r ru e => shw_of I rs r ru e) h2 (by simpa using rv) h3) (by simpa [PyData.showable] using z1) z4 hg (by omega) fin
  | fl h1 h2 =>
    simp only [toPD, Option.map_eq_some_iff] at e1
    obtain ⟨ps, h3, e4⟩ := e1
    exact lists ru h1.sq h2 h3 e4.symm
  | emp h1 =>
    have e2 := e1
    simp only [toPD, Option.some.injEq] at e2
    obtain ⟨as, hr, hn⟩ := reads_of I rs (.emp h1) ru e1
    subst e2
    cases ru
    exact repr_of_reads' hr z1 (fun _ => hn rfl) hg (by omega) (fun _ _ e => e) fin z4
  | ref h1 =>
    rename_i n a
    simp only [toPD] at e1
    cases z : S[n]? with
    | none => rw [z] at e1; cases e1
    | some c =>
      rw [z] at e1
      cases c with
      | lst xs =>
        simp only [Option.map_eq_some_iff] at e1
        obtain ⟨ps, h3, e4⟩ := e1
        obtain ⟨a', vs, e5, q2, q3, q4⟩ := rs.list z (.ref h1)
        cases e5
        exact lists ru (SqL.of q3) q4 h3 e4.symm
      | exc c fs => cases e1
      | ins c fs => cases e1
theorem c_repr2 (hg : X.A.guards = some []) (hu : X.A.units + 64 < cLine) : OC X (.builtin "repr") gRepr2 := by
  refine oc1 (fun S ds h => gRepr2_not ds S h) fun W pins s σ H m S d x us Q I rs rd r p => ?_
  obtain ⟨u, rfl, ru⟩ := Vals.one r
  rw [gRepr2_one] at p
  revert p
  generalize e1 : toPD S 40 d = o
  intro p
  cases o with
  | none => exact p.elim
  | some pd =>
    dsimp only at p
    by_cases hz : (pd.showable && decide (pd.depth ≤ 60) && decide (pd.shown.length ≤ sizeLine)) = true
    · rw [if_pos hz] at p
      simp only [Bool.and_eq_true, decide_eq_true_eq] at hz
      obtain ⟨⟨z1, z3⟩, z4⟩ := hz
      have q := p H m _ Le.refl rs (.str _)
      exact repr2_core hg hu I rs rd ru (k := 39) e1 z1 z3 z4 fun h' v tk hk => ⟨.str pd.shown, H, I.kept (t' := tk) hk, ⟨_, rfl⟩, q⟩
    · rw [if_neg hz] at p; exact p.elim
end
end Z
namespace P
open PySem PySem.Spec PyProof.Rows L2 Z
def top (i : Nat) : Stmt := PySem.Challenge.pw_lateshares_k05_nets_of_anything.main.body.getD i (.Pass ⟨0, 0, 0, 0⟩)
def itab : Tab := []
abbrev st_is_whole : Stmt := top 1
theorem sc_is_whole : FnScope ["thing"] ["thing"] (defScope st_is_whole) := ⟨rfl, rfl, rfl, by decide +kernel, rfl, by decide +kernel, by decide +kernel⟩
noncomputable def b_is_whole : FS := sSeq (sRet (vAnd (vUn (gIsi itab [.ty "int"]) (vV 0)) (vNot (vUn (gIsi itab [.ty "bool"]) (vV 0))))) (sNil)
noncomputable def fn_is_whole : List D → Sto → Res := runS 1 b_is_whole
abbrev st_is_join : Stmt := top 6
theorem sc_is_join : FnScope ["net"] ["net"] (defScope st_is_join) := ⟨rfl, rfl, rfl, by decide +kernel, rfl, by decide +kernel, by decide +kernel⟩
noncomputable def b_is_join : FS := sSeq (sRet (vOr (vBin (gInP false) (vBin gIx (vV 0) (vC (.int 0))) (vC (.tup [.str "after", .str "last", .str "first"]))) (vBin (gInP false) (vBin gIx (vV 0) (vC (.int 0))) (vC (.tup [.str "not_before", .str "given_up"]))))) (sNil)
noncomputable def fn_is_join : List D → Sto → Res := runS 1 b_is_join
abbrev st_is_begun : Stmt := top 7
theorem sc_is_begun : FnScope ["thing", "many", "word"] ["thing", "many"] (defScope st_is_begun) := ⟨rfl, rfl, rfl, by decide +kernel, rfl, by decide +kernel, by decide +kernel⟩
noncomputable def b_is_begun : FS := sSeq (sIf (bOr (bNot (bOf (vUn (gIsi itab [.ty "tuple"]) (vV 0)))) (bOr (bCmp gLt (vCall gLen (lCons (vV 0) (lNil))) (vC (.int 2))) (bNot (bOf (vUn (gIsi itab [.ty "str"]) (vBin gIx (vV 0) (vC (.int 0)))))))) (sSeq (sRet (vC (.bl false))) (sNil)) (sNil)) (sSeq (sSet 2 (vBin gIx (vV 0) (vC (.int 0)))) (sSeq (sIf (bCmp gEq (vV 2) (vC (.str "work"))) (sSeq (sRet (vAnd (vBin gEq (vCall gLen (lCons (vV 0) (lNil))) (vC (.int 2))) (vAnd (vCall (vFn 1 [0] [] fn_is_whole) (lCons (vBin gIx (vV 0) (vC (.int 1))) (lNil))) (vChain gLe gLt (vC (.int 0)) (vBin gIx (vV 0) (vC (.int 1))) (vV 1))))) (sNil)) (sNil)) (sSeq (sIf (bCmp gEq (vV 2) (vC (.str "rest"))) (sSeq (sRet (vAnd (vBin gEq (vCall gLen (lCons (vV 0) (lNil))) (vC (.int 2))) (vAnd (vCall (vFn 1 [0] [] fn_is_whole) (lCons (vBin gIx (vV 0) (vC (.int 1))) (lNil))) (vBin gGe (vBin gIx (vV 0) (vC (.int 1))) (vC (.int 0)))))) (sNil)) (sNil)) (sSeq (sIf (bCmp (gInP false) (vV 2) (vC (.tup [.str "not_before", .str "given_up"]))) (sSeq (sRet (vBin gEq (vCall gLen (lCons (vV 0) (lNil))) (vC (.int 3)))) (sNil)) (sNil)) (sSeq (sRet (vAnd (vBin (gInP false) (vV 2) (vC (.tup [.str "after", .str "last", .str "first"]))) (vChain gLe gLe (vC (.int 3)) (vCall gLen (lCons (vV 0) (lNil))) (vC (.int 5))))) (sNil))))))
noncomputable def fn_is_begun : List D → Sto → Res := runS 3 b_is_begun
abbrev st_parts_of : Stmt := top 9
theorem sc_parts_of : FnScope ["net"] ["net"] (defScope st_parts_of) := ⟨rfl, rfl, rfl, by decide +kernel, rfl, by decide +kernel, by decide +kernel⟩
noncomputable def b_parts_of : FS := sSeq (sIf (bCmp (gInP false) (vBin gIx (vV 0) (vC (.int 0))) (vC (.tup [.str "not_before", .str "given_up"]))) (sSeq (sRet (vTup (lCons (vTup (lCons (vC (.str "rest")) (lCons (vBin gIx (vV 0) (vC (.int 1))) (lNil)))) (lCons (vBin gIx (vV 0) (vC (.int 2))) (lNil))))) (sNil)) (sNil)) (sSeq (sIf (bCmp (gInP false) (vBin gIx (vV 0) (vC (.int 0))) (vC (.tup [.str "after", .str "last", .str "first"]))) (sSeq (sRet (vSl (vV 0) (vInt (vC (.int 1))) (vC .non))) (sNil)) (sNil)) (sSeq (sRet (vTup (lNil))) (sNil)))
noncomputable def fn_parts_of : List D → Sto → Res := runS 1 b_parts_of
abbrev st_is_net : Stmt := top 8
theorem sc_is_net : FnScope ["thing", "many", "joins", "waiting", "one"] ["thing", "many"] (defScope st_is_net) := ⟨rfl, rfl, rfl, by decide +kernel, rfl, by decide +kernel, by decide +kernel⟩
noncomputable def b_is_net : FS := sSeq (sSet 2 (vC (.int 0))) (sSeq (sSet 3 (vLst (lCons (vV 0) (lNil)))) (sSeq (sWhile (bOf (vV 3)) (sSeq (sSet 4 (vMeth0 isLst gPop (vV 3))) (sSeq (sIf (bNot (bOf (vCall (vFn 2 [0, 1] [] fn_is_begun) (lCons (vV 4) (lCons (vV 1) (lNil)))))) (sSeq (sRet (vC (.bl false))) (sNil)) (sNil)) (sSeq (sIf (bOf (vCall (vFn 1 [0] [] fn_is_join) (lCons (vV 4) (lNil)))) (sSeq (sAugI 2 (fun i j => i + j) (vC (.int 1))) (sSeq (sIf (bCmp gGt (vV 2) (vC (.int 12))) (sSeq (sRet (vC (.bl false))) (sNil)) (sNil)) (sSeq (sEx (vMeth isLst gExt (vV 3) (lCons (vCall (vFn 1 [0] [] fn_parts_of) (lCons (vV 4) (lNil))) (lNil)))) (sNil)))) (sNil)) (sNil))))) (sSeq (sRet (vC (.bl true))) (sNil))))
noncomputable def fn_is_net : List D → Sto → Res := runS 5 b_is_net
abbrev st__law_pot : Stmt := top 11
theorem sc__law_pot : FnScope ["_law_script", "_law_k", "_law_cell", "_law_great"] ["_law_script", "_law_k"] (defScope st__law_pot) := ⟨rfl, rfl, rfl, by decide +kernel, rfl, by decide +kernel, by decide +kernel⟩
noncomputable def b__law_pot : FS := sSeq (sSet 2 (vBin gAdd (vBin gMul (vC (.int 5)) (vV 1)) (vCall gLen (lCons (vV 0) (lNil))))) (sSeq (sIf (bCmp gLt (vV 1) (vCall gLen (lCons (vV 0) (lNil)))) (sSeq (sSet 2 (vBin gIx (vV 0) (vV 1))) (sNil)) (sNil)) (sSeq (sSet 3 (vBin gMul (vBin gMod (vCall gAbs (lCons (vV 2) (lNil))) (vCall gInt (lCons (vBin gAdd (vC (.str "1")) (vBin gMul (vC (.str "0")) (vC (.int 300)))) (lNil)))) (vCall gInt (lCons (vBin gGe (vCall gAbs (lCons (vV 2) (lNil))) (vBin gPow (vC (.int 10)) (vC (.int 18)))) (lNil))))) (sSeq (sRet (vLst (lCons (vV 3) (lCons (vBin gMod (vBin gMul (vBin gAdd (vBin gAdd (vBin gMod (vV 2) (vC (.int 2305843009213693951))) (vBin gMul (vBin gMul (vC (.int 6959)) (vV 1)) (vV 1))) (vC (.int 13))) (vC (.int 48271))) (vC (.int 2305843009213693951))) (lNil))))) (sNil))))
noncomputable def fn__law_pot : List D → Sto → Res := runS 4 b__law_pot
abbrev st__law_take : Stmt := top 12
theorem sc__law_take : FnScope ["_law_pot_here", "_law_upto", "_law_digit"] ["_law_pot_here", "_law_upto"] (defScope st__law_take) := ⟨rfl, rfl, rfl, by decide +kernel, rfl, by decide +kernel, by decide +kernel⟩
noncomputable def b__law_take : FS := sSeq (sIf (bCmp gGt (vBin gIx (vV 0) (vC (.int 0))) (vC (.int 0))) (sSeq (sSet 2 (vBin gMod (vBin gIx (vV 0) (vC (.int 0))) (vV 1))) (sSeq (sSub (vBin gDiv (vBin gIx (vV 0) (vC (.int 0))) (vV 1)) (vV 0) (vC (.int 0))) (sSeq (sRet (vV 2)) (sNil)))) (sNil)) (sSeq (sSub (vBin gMod (vBin gAdd (vBin gMul (vBin gIx (vV 0) (vC (.int 1))) (vC (.int 1181783497276652981))) (vC (.int 12345678910987))) (vC (.int 2305843009213693951))) (vV 0) (vC (.int 1))) (sSeq (sRet (vBin gMod (vBin gDiv (vBin gMod (vBin gMul (vBin gDiv (vBin gIx (vV 0) (vC (.int 1))) (vC (.int 65537))) (vBin gAdd (vBin gMod (vBin gIx (vV 0) (vC (.int 1))) (vC (.int 65537))) (vC (.int 3)))) (vC (.int 2305843009213693921))) (vC (.int 97))) (vV 1))) (sNil)))
noncomputable def fn__law_take : List D → Sto → Res := runS 3 b__law_take
abbrev st__law_of : Stmt := top 13
theorem sc__law_of : FnScope ["_law_pot_here", "_law_some"] ["_law_pot_here", "_law_some"] (defScope st__law_of) := ⟨rfl, rfl, rfl, by decide +kernel, rfl, by decide +kernel, by decide +kernel⟩
noncomputable def b__law_of : FS := sSeq (sRet (vBin gIx (vV 1) (vCall (vFn 2 [0, 1] [] fn__law_take) (lCons (vV 0) (lCons (vCall gLen (lCons (vV 1) (lNil))) (lNil)))))) (sNil)
noncomputable def fn__law_of : List D → Sto → Res := runS 2 b__law_of
abbrev st__law_number : Stmt := top 14
theorem sc__law_number : FnScope ["_law_pot_here"] ["_law_pot_here"] (defScope st__law_number) := ⟨rfl, rfl, rfl, by decide +kernel, rfl, by decide +kernel, by decide +kernel⟩
noncomputable def b__law_number : FS := sSeq (sRet (vCall (vFn 2 [0, 1] [] fn__law_of) (lCons (vV 0) (lCons (vLst (lCons (vC (.int 0)) (lCons (vC (.int 1)) (lCons (vC (.int 2)) (lCons (vC (.int 3)) (lCons (vC (.int 7)) (lCons (vCall (vFn 2 [0, 1] [] fn__law_take) (lCons (vV 0) (lCons (vC (.int 20)) (lNil)))) (lCons (vCall (vFn 2 [0, 1] [] fn__law_take) (lCons (vV 0) (lCons (vBin gPow (vC (.int 10)) (vC (.int 11))) (lNil)))) (lNil))))))))) (lNil))))) (sNil)
noncomputable def fn__law_number : List D → Sto → Res := runS 1 b__law_number
abbrev st__law_net : Stmt := top 15
theorem sc__law_net : FnScope ["_law_pot_here", "_law_count", "_law_left", "_law_word", "_law_parts", "_law_number_here", "_law_turn"] ["_law_pot_here", "_law_count", "_law_left"] (defScope st__law_net) := ⟨rfl, rfl, rfl, by decide +kernel, rfl, by decide +kernel, by decide +kernel⟩
noncomputable def b__law_net (rec : List D → Sto → Res) : FS := sSeq (sIf (bOr (bCmp gEq (vBin gIx (vV 2) (vC (.int 0))) (vC (.int 0))) (bCmp gEq (vCall (vFn 2 [0, 1] [] fn__law_take) (lCons (vV 0) (lCons (vC (.int 4)) (lNil)))) (vC (.int 0)))) (sSeq (sRet (vIf (bCmp gGt (vCall (vFn 2 [0, 1] [] fn__law_take) (lCons (vV 0) (lCons (vC (.int 4)) (lNil)))) (vC (.int 0))) (vTup (lCons (vC (.str "work")) (lCons (vCall (vFn 2 [0, 1] [] fn__law_take) (lCons (vV 0) (lCons (vV 1) (lNil)))) (lNil)))) (vTup (lCons (vC (.str "rest")) (lCons (vCall (vFn 1 [0] [] fn__law_number) (lCons (vV 0) (lNil))) (lNil)))))) (sNil)) (sNil)) (sSeq (sSub (vBin gSub (vBin gIx (vV 2) (vC (.int 0))) (vC (.int 1))) (vV 2) (vC (.int 0))) (sSeq (sSet 3 (vCall (vFn 2 [0, 1] [] fn__law_of) (lCons (vV 0) (lCons (vLst (lCons (vC (.str "after")) (lCons (vC (.str "last")) (lCons (vC (.str "first")) (lCons (vC (.str "after")) (lCons (vC (.str "last")) (lCons (vC (.str "first")) (lCons (vC (.str "not_before")) (lCons (vC (.str "given_up")) (lNil)))))))))) (lNil))))) (sSeq (sIf (bCmp (gInP false) (vV 3) (vTup (lCons (vC (.str "not_before")) (lCons (vC (.str "given_up")) (lNil))))) (sSeq (sSet 5 (vCall (vFn 1 [0] [] fn__law_number) (lCons (vV 0) (lNil)))) (sSeq (sRet (vTup (lCons (vV 3) (lCons (vV 5) (lCons (vCall (vFn 3 [0, 1, 2] [] rec) (lCons (vV 0) (lCons (vV 1) (lCons (vV 2) (lNil))))) (lNil)))))) (sNil))) (sNil)) (sSeq (sSet 4 (vBin gAdd (vC (.int 2)) (vCall (vFn 2 [0, 1] [] fn__law_of) (lCons (vV 0) (lCons (vLst (lCons (vC (.int 0)) (lCons (vC (.int 0)) (lCons (vC (.int 1)) (lCons (vC (.int 2)) (lNil)))))) (lNil)))))) (sSeq (sRet (vBin gAdd (vTup (lCons (vV 3) (lNil))) (vCall gTuple (lCons (vLc (iRng (vV 4)) (.nm 6) [6] (bTrue) (vCall (vFn 3 [0, 1, 2] [] rec) (lCons (vV 0) (lCons (vV 1) (lCons (vV 2) (lNil)))))) (lNil))))) (sNil))))))
noncomputable def fn__law_net : Nat → List D → Sto → Res
  | 0 => fun _ _ => .bad
  | n + 1 => runS 7 (b__law_net (fn__law_net n))
abbrev fuel__law_net : Nat := 60
abbrev st__law_joins : Stmt := top 16
theorem sc__law_joins : FnScope ["_law_item", "_law_count", "_law_inner", "_law_found", "_law_one"] ["_law_item", "_law_count"] (defScope st__law_joins) := ⟨rfl, rfl, rfl, by decide +kernel, rfl, by decide +kernel, by decide +kernel⟩
noncomputable def b__law_joins (rec : List D → Sto → Res) : FS := sSeq (sIf (bOr (bNot (bOf (vUn (gIsi itab [.ty "tuple"]) (vV 0)))) (bOr (bCmp gEq0 (vV 0) (vTup (lNil))) (bNot (bOf (vUn (gIsi itab [.ty "str"]) (vBin gIx (vV 0) (vC (.int 0)))))))) (sSeq (sRet (vC .non)) (sNil)) (sNil)) (sSeq (sIf (bCmp (gInP false) (vBin gIx (vV 0) (vC (.int 0))) (vTup (lCons (vC (.str "work")) (lCons (vC (.str "rest")) (lNil))))) (sSeq (sIf (bOr (bCmp gNe (vCall gLen (lCons (vV 0) (lNil))) (vC (.int 2))) (bOr (bNot (bOf (vUn (gIsi itab [.ty "int"]) (vBin gIx (vV 0) (vC (.int 1)))))) (bOr (bOf (vUn (gIsi itab [.ty "bool"]) (vBin gIx (vV 0) (vC (.int 1))))) (bCmp gLt (vBin gIx (vV 0) (vC (.int 1))) (vC (.int 0)))))) (sSeq (sRet (vC .non)) (sNil)) (sNil)) (sSeq (sRet (vIf (bOr (bCmp gEq (vBin gIx (vV 0) (vC (.int 0))) (vC (.str "rest"))) (bCmp gLt (vBin gIx (vV 0) (vC (.int 1))) (vV 1))) (vC (.int 0)) (vC .non))) (sNil))) (sNil)) (sSeq (sSet 2 (vSl (vV 0) (vInt (vC (.int 1))) (vC .non))) (sSeq (sIf (bCmp (gInP false) (vBin gIx (vV 0) (vC (.int 0))) (vTup (lCons (vC (.str "not_before")) (lCons (vC (.str "given_up")) (lNil))))) (sSeq (sIf (bOr (bCmp gNe (vCall gLen (lCons (vV 0) (lNil))) (vC (.int 3))) (bOr (bNot (bOf (vUn (gIsi itab [.ty "int"]) (vBin gIx (vV 0) (vC (.int 1)))))) (bOr (bOf (vUn (gIsi itab [.ty "bool"]) (vBin gIx (vV 0) (vC (.int 1))))) (bCmp gLt (vBin gIx (vV 0) (vC (.int 1))) (vC (.int 0)))))) (sSeq (sRet (vC .non)) (sNil)) (sNil)) (sSeq (sSet 2 (vSl (vV 0) (vInt (vC (.int 2))) (vC .non))) (sNil))) (sSeq (sIf (bOr (bCmp (gInP true) (vBin gIx (vV 0) (vC (.int 0))) (vTup (lCons (vC (.str "after")) (lCons (vC (.str "last")) (lCons (vC (.str "first")) (lNil)))))) (bNot (bBl (vChain gLe gLe (vC (.int 3)) (vCall gLen (lCons (vV 0) (lNil))) (vC (.int 5)))))) (sSeq (sRet (vC .non)) (sNil)) (sNil)) (sNil))) (sSeq (sSet 3 (vLc (iSeq (vV 2)) (.nm 4) [4] (bTrue) (vCall (vFn 2 [0, 1] [] rec) (lCons (vV 4) (lCons (vV 1) (lNil)))))) (sSeq (sRet (vIf (bCmp (gInP false) (vC .non) (vV 3)) (vC .non) (vBin gAdd (vC (.int 1)) (vCall gSum (lCons (vV 3) (lNil)))))) (sNil))))))
noncomputable def fn__law_joins : Nat → List D → Sto → Res
  | 0 => fun _ _ => .bad
  | n + 1 => runS 5 (b__law_joins (fn__law_joins n))
abbrev fuel__law_joins : Nat := 60
abbrev st__law_due : Stmt := top 17
theorem sc__law_due : FnScope ["_law_item", "_law_count", "_law_found"] ["_law_item", "_law_count"] (defScope st__law_due) := ⟨rfl, rfl, rfl, by decide +kernel, rfl, by decide +kernel, by decide +kernel⟩
noncomputable def b__law_due : FS := sSeq (sSet 2 (vCall (vFn 2 [0, 1] [] (fn__law_joins fuel__law_joins)) (lCons (vV 0) (lCons (vV 1) (lNil))))) (sSeq (sRet (vAnd (vBin (gIsN true) (vV 2) (vC .non)) (vBin gLe (vV 2) (vC (.int 12))))) (sNil))
noncomputable def fn__law_due : List D → Sto → Res := runS 3 b__law_due
abbrev st__law_odd : Stmt := top 18
theorem sc__law_odd : FnScope ["_law_pot_here", "_law_count", "_law_some"] ["_law_pot_here", "_law_count"] (defScope st__law_odd) := ⟨rfl, rfl, rfl, by decide +kernel, rfl, by decide +kernel, by decide +kernel⟩
noncomputable def b__law_odd : FS := sSeq (sSet 2 (vLst (lCons (vC .non) (lCons (vC (.bl true)) (lCons (vC (.bl false)) (lCons (vUn gNeg (vC (.int 1))) (lCons (vC (.int 0)) (lCons (vV 1) (lCons (vC (.int 7)) (lCons (vC (.str "work")) (lCons (vC (.str "rest")) (lCons (vC (.str "last")) (lCons (vC (.str "")) (lCons (vTup (lNil)) (lCons (vLst (lNil)) (lCons (vEmp) (lCons (vTup (lCons (vC (.str "work")) (lNil))) (lCons (vTup (lCons (vC (.str "rest")) (lCons (vUn gNeg (vC (.int 1))) (lNil)))) (lNil))))))))))))))))))) (sSeq (sSet 2 (vBin gAdd (vV 2) (vLst (lCons (vTup (lCons (vC (.str "work")) (lCons (vV 1) (lNil)))) (lCons (vTup (lCons (vC (.str "work")) (lCons (vC (.int 0)) (lNil)))) (lCons (vTup (lCons (vC (.str "rest")) (lCons (vC (.int 0)) (lNil)))) (lCons (vTup (lCons (vC (.str "after")) (lCons (vTup (lCons (vC (.str "rest")) (lCons (vC (.int 1)) (lNil)))) (lNil)))) (lCons (vLst (lCons (vC (.str "rest")) (lCons (vC (.int 1)) (lNil)))) (lCons (vTup (lCons (vC (.str "rest")) (lCons (vC (.bl true)) (lNil)))) (lNil)))))))))) (sSeq (sRet (vCall (vFn 2 [0, 1] [] fn__law_of) (lCons (vV 0) (lCons (vBin gAdd (vV 2) (vLst (lCons (vC (.str "not_before")) (lCons (vC (.str "given_up")) (lCons (vC (.str "first")) (lCons (vC (.str "after")) (lCons (vC (.str "later")) (lCons (vBin gAdd (vTup (lCons (vC (.str "last")) (lNil))) (vBin gMul (vTup (lCons (vTup (lCons (vC (.str "rest")) (lCons (vC (.int 1)) (lNil)))) (lNil))) (vC (.int 5)))) (lNil))))))))) (lNil))))) (sNil)))
noncomputable def fn__law_odd : List D → Sto → Res := runS 3 b__law_odd
abbrev st__law_otherwise : Stmt := top 19
theorem sc__law_otherwise : FnScope ["_law_pot_here", "_law_item", "_law_count", "_law_way", "_law_odd_here", "_law_at", "_law_some"] ["_law_pot_here", "_law_item", "_law_count"] (defScope st__law_otherwise) := ⟨rfl, rfl, rfl, by decide +kernel, rfl, by decide +kernel, by decide +kernel⟩
noncomputable def b__law_otherwise (rec : List D → Sto → Res) : FS := sSeq (sIf (bAnd (bOf (vUn (gIsi itab [.ty "tuple"]) (vV 1))) (bAnd (bCmp gNe0 (vV 1) (vTup (lNil))) (bCmp gGt (vCall (vFn 2 [0, 1] [] fn__law_take) (lCons (vV 0) (lCons (vC (.int 5)) (lNil)))) (vC (.int 0))))) (sSeq (sSet 5 (vCall (vFn 2 [0, 1] [] fn__law_take) (lCons (vV 0) (lCons (vCall gLen (lCons (vV 1) (lNil))) (lNil))))) (sSeq (sRet (vBin gAdd (vBin gAdd (vSl (vV 1) (vC .non) (vInt (vV 5))) (vTup (lCons (vCall (vFn 3 [0, 1, 2] [] rec) (lCons (vV 0) (lCons (vBin gIx (vV 1) (vV 5)) (lCons (vV 2) (lNil))))) (lNil)))) (vSl (vV 1) (vInt (vBin gAdd (vV 5) (vC (.int 1)))) (vC .non)))) (sNil))) (sNil)) (sSeq (sPar 3 4 (lCons (vCall (vFn 2 [0, 1] [] fn__law_take) (lCons (vV 0) (lCons (vC (.int 7)) (lNil)))) (lCons (vCall (vFn 2 [0, 1] [] fn__law_odd) (lCons (vV 0) (lCons (vV 2) (lNil)))) (lNil)))) (sSeq (sIf (bOr (bNot (bOf (vUn (gIsi itab [.ty "tuple"]) (vV 1)))) (bCmp gGt (vV 3) (vC (.int 4)))) (sSeq (sRet (vV 4)) (sNil)) (sNil)) (sSeq (sSet 5 (vCall (vFn 2 [0, 1] [] fn__law_take) (lCons (vV 0) (lCons (vBin gAdd (vCall gLen (lCons (vV 1) (lNil))) (vC (.int 1))) (lNil))))) (sSeq (sSet 6 (vLst (lCons (vBin gAdd (vSl (vV 1) (vC .non) (vInt (vV 5))) (vSl (vV 1) (vInt (vBin gAdd (vV 5) (vC (.int 1)))) (vC .non))) (lCons (vBin gAdd (vBin gAdd (vSl (vV 1) (vC .non) (vInt (vV 5))) (vTup (lCons (vV 4) (lNil)))) (vSl (vV 1) (vInt (vV 5)) (vC .non))) (lCons (vBin gAdd (vBin gAdd (vSl (vV 1) (vC .non) (vInt (vV 5))) (vSl (vV 1) (vInt (vV 5)) (vInt (vBin gAdd (vV 5) (vC (.int 1)))))) (vSl (vV 1) (vInt (vV 5)) (vC .non))) (lNil)))))) (sSeq (sRet (vBin gIx (vBin gAdd (vV 6) (vLst (lCons (vCall gList (lCons (vV 1) (lNil))) (lCons (vUn gRevT (vV 1)) (lNil))))) (vV 3))) (sNil))))))
noncomputable def fn__law_otherwise : Nat → List D → Sto → Res
  | 0 => fun _ _ => .bad
  | n + 1 => runS 7 (b__law_otherwise (fn__law_otherwise n))
abbrev fuel__law_otherwise : Nat := 60
abbrev st__law_deep : Stmt := top 20
theorem sc__law_deep : FnScope ["_law_pot_here", "_law_count", "_law_joins_here", "_law_found", "_law_turn", "_law_word"] ["_law_pot_here", "_law_count", "_law_joins_here"] (defScope st__law_deep) := ⟨rfl, rfl, rfl, by decide +kernel, rfl, by decide +kernel, by decide +kernel⟩
noncomputable def b__law_deep : FS := sSeq (sSet 3 (vTup (lCons (vC (.str "work")) (lCons (vBin gSub (vV 1) (vC (.int 1))) (lNil))))) (sSeq (sFor (iRng (vV 2)) (.nm 4) (sSeq (sSet 5 (vCall (vFn 2 [0, 1] [] fn__law_of) (lCons (vV 0) (lCons (vLst (lCons (vC (.str "after")) (lCons (vC (.str "last")) (lCons (vC (.str "first")) (lCons (vC (.str "not_before")) (lCons (vC (.str "given_up")) (lNil))))))) (lNil))))) (sSeq (sIf (bCmp (gInP false) (vV 5) (vTup (lCons (vC (.str "not_before")) (lCons (vC (.str "given_up")) (lNil))))) (sSeq (sSet 3 (vTup (lCons (vV 5) (lCons (vV 4) (lCons (vV 3) (lNil)))))) (sNil)) (sSeq (sSet 3 (vCall (vFn 2 [0, 1] [] fn__law_of) (lCons (vV 0) (lCons (vLst (lCons (vTup (lCons (vV 5) (lCons (vV 3) (lCons (vTup (lCons (vC (.str "rest")) (lCons (vV 4) (lNil)))) (lNil))))) (lCons (vTup (lCons (vV 5) (lCons (vTup (lCons (vC (.str "work")) (lCons (vC (.int 0)) (lNil)))) (lCons (vV 3) (lNil))))) (lNil)))) (lNil))))) (sNil))) (sNil)))) (sSeq (sRet (vV 3)) (sNil)))
noncomputable def fn__law_deep : List D → Sto → Res := runS 6 b__law_deep
abbrev st__law_asked_right : Stmt := top 21
theorem sc__law_asked_right : FnScope ["_law_item", "_law_count", "_law_kept", "_law_due_here", "_law_told"] ["_law_item", "_law_count"] (defScope st__law_asked_right) := ⟨rfl, rfl, rfl, by decide +kernel, rfl, by decide +kernel, by decide +kernel⟩
noncomputable def b__law_asked_right : FS := sSeq (sPar 2 3 (lCons (vCall gRepr2 (lCons (vV 0) (lNil))) (lCons (vCall (vFn 2 [0, 1] [] fn__law_due) (lCons (vV 0) (lCons (vV 1) (lNil)))) (lNil)))) (sSeq (sSet 4 (vLst (lCons (vCall (vFn 2 [0, 1] [] fn_is_net) (lCons (vV 0) (lCons (vV 1) (lNil)))) (lCons (vCall (vFn 2 [0, 1] [] fn_is_net) (lCons (vV 0) (lCons (vV 1) (lNil)))) (lNil))))) (sSeq (sRet (vAnd (vBin gEq (vCall gRepr2 (lCons (vV 4) (lNil))) (vCall gRepr2 (lCons (vLst (lCons (vV 3) (lCons (vV 3) (lNil)))) (lNil)))) (vBin gEq (vCall gRepr2 (lCons (vV 0) (lNil))) (vV 2)))) (sNil)))
noncomputable def fn__law_asked_right : List D → Sto → Res := runS 5 b__law_asked_right
abbrev st__law_right : Stmt := top 22
theorem sc__law_right : FnScope ["_law_pot_here", "_law_works", "_law_some", "_law_net_here", "_law_turn", "_law_bent", "_law_number_here"] ["_law_pot_here"] (defScope st__law_right) := ⟨rfl, rfl, rfl, by decide +kernel, rfl, by decide +kernel, by decide +kernel⟩
noncomputable def b__law_right : FS := sSeq (sSet 1 (vBin gAdd (vC (.int 1)) (vCall (vFn 2 [0, 1] [] fn__law_take) (lCons (vV 0) (lCons (vC (.int 6)) (lNil)))))) (sSeq (sSet 2 (vLst (lCons (vCall (vFn 3 [0, 1, 2] [] (fn__law_net fuel__law_net)) (lCons (vV 0) (lCons (vV 1) (lCons (vLst (lCons (vCall (vFn 2 [0, 1] [] fn__law_take) (lCons (vV 0) (lCons (vC (.int 13)) (lNil)))) (lNil))) (lNil))))) (lNil)))) (sSeq (sEx (vMeth isLst gExt (vV 2) (lCons (vLst (lCons (vCall (vFn 3 [0, 1, 2] [] fn__law_deep) (lCons (vV 0) (lCons (vV 1) (lCons (vC (.int 12)) (lNil))))) (lCons (vCall (vFn 3 [0, 1, 2] [] fn__law_deep) (lCons (vV 0) (lCons (vV 1) (lCons (vC (.int 13)) (lNil))))) (lNil)))) (lNil)))) (sSeq (sEx (vMeth isLst gApp (vV 2) (lCons (vBin gAdd (vTup (lCons (vC (.str "after")) (lNil))) (vCall gTuple (lCons (vLc (iRng (vC (.int 4))) (.nm 4) [4] (bTrue) (vCall (vFn 3 [0, 1, 2] [] fn__law_deep) (lCons (vV 0) (lCons (vV 1) (lCons (vBin gAdd (vC (.int 3)) (vBin gDiv (vV 4) (vC (.int 3)))) (lNil)))))) (lNil)))) (lNil)))) (sSeq (sIf (bCmp gNe (vLc (iSeq (vSl (vV 2) (vC .non) (vInt (vC (.int 3))))) (.nm 3) [3] (bTrue) (vCall (vFn 2 [0, 1] [] fn_is_net) (lCons (vV 3) (lCons (vV 1) (lNil))))) (vLst (lCons (vC (.bl true)) (lCons (vC (.bl true)) (lCons (vC (.bl false)) (lNil)))))) (sSeq (sRet (vC (.bl false))) (sNil)) (sNil)) (sSeq (sFor (iSeq (vV 2)) (.nm 3) (sSeq (sIf (bNot (bOf (vCall gAll (lCons (vLc (iRng (vC (.int 7))) (.nm 6) [6] (bTrue) (vCall (vFn 2 [0, 1] [] fn__law_asked_right) (lCons (vV 3) (lCons (vV 6) (lNil))))) (lNil))))) (sSeq (sRet (vC (.bl false))) (sNil)) (sNil)) (sSeq (sFor (iRng (vC (.int 20))) (.nm 4) (sSeq (sSet 5 (vCall (vFn 3 [0, 1, 2] [] (fn__law_otherwise fuel__law_otherwise)) (lCons (vV 0) (lCons (vV 3) (lCons (vV 1) (lNil)))))) (sSeq (sIf (bCmp gEq (vCall (vFn 2 [0, 1] [] fn__law_take) (lCons (vV 0) (lCons (vC (.int 4)) (lNil)))) (vC (.int 0))) (sSeq (sSet 5 (vCall (vFn 3 [0, 1, 2] [] (fn__law_otherwise fuel__law_otherwise)) (lCons (vV 0) (lCons (vV 5) (lCons (vV 1) (lNil)))))) (sNil)) (sNil)) (sSeq (sIf (bNot (bOf (vCall (vFn 2 [0, 1] [] fn__law_asked_right) (lCons (vV 5) (lCons (vV 1) (lNil)))))) (sSeq (sRet (vC (.bl false))) (sNil)) (sNil)) (sNil))))) (sNil)))) (sSeq (sRet (vAnd (vBin gEq (vC (.int 12)) (vC (.int 12))) (vCall gAll (lCons (vLc (iRng (vC (.int 6))) (.nm 4) [4] (bTrue) (vCall (vFn 2 [0, 1] [] fn__law_asked_right) (lCons (vCall (vFn 2 [0, 1] [] fn__law_odd) (lCons (vV 0) (lCons (vV 1) (lNil)))) (lCons (vV 1) (lNil))))) (lNil))))) (sNil)))))))
noncomputable def fn__law_right : List D → Sto → Res := runS 7 b__law_right
abbrev st_law : Stmt := top 23
theorem sc_law : FnScope ["_law_script", "_law_k"] ["_law_script"] (defScope st_law) := ⟨rfl, rfl, rfl, by decide +kernel, rfl, by decide +kernel, by decide +kernel⟩
noncomputable def b_law : FS := sSeq (sRet (vCall gAll (lCons (vLc (iRng (vCall gMax2 (lCons (vC (.int 1)) (lCons (vCall gMin2 (lCons (vC (.int 4)) (lCons (vCall gLen (lCons (vV 0) (lNil))) (lNil)))) (lNil))))) (.nm 1) [1] (bTrue) (vCall (vFn 1 [0] [] fn__law_right) (lCons (vCall (vFn 2 [0, 1] [] fn__law_pot) (lCons (vV 0) (lCons (vV 1) (lNil)))) (lNil)))) (lNil)))) (sNil)
noncomputable def fn_law : List D → Sto → Res := runS 2 b_law
structure Fx (K : PySem.W.Frag) (mg : Str → Option Value) : Prop where
  g_HOURED : mg "HOURED" = some (.ref (He.ga K "HOURED"))
  g_MEETINGS : mg "MEETINGS" = some (.ref (He.ga K "MEETINGS"))
  g__law_asked_right : mg "_law_asked_right" = some (.ref (He.ga K "_law_asked_right"))
  g__law_deep : mg "_law_deep" = some (.ref (He.ga K "_law_deep"))
  g__law_due : mg "_law_due" = some (.ref (He.ga K "_law_due"))
  g__law_joins : mg "_law_joins" = some (.ref (He.ga K "_law_joins"))
  g__law_net : mg "_law_net" = some (.ref (He.ga K "_law_net"))
  g__law_number : mg "_law_number" = some (.ref (He.ga K "_law_number"))
  g__law_odd : mg "_law_odd" = some (.ref (He.ga K "_law_odd"))
  g__law_of : mg "_law_of" = some (.ref (He.ga K "_law_of"))
  g__law_otherwise : mg "_law_otherwise" = some (.ref (He.ga K "_law_otherwise"))
  g__law_pot : mg "_law_pot" = some (.ref (He.ga K "_law_pot"))
  g__law_right : mg "_law_right" = some (.ref (He.ga K "_law_right"))
  g__law_take : mg "_law_take" = some (.ref (He.ga K "_law_take"))
  g_is_begun : mg "is_begun" = some (.ref (He.ga K "is_begun"))
  g_is_join : mg "is_join" = some (.ref (He.ga K "is_join"))
  g_is_net : mg "is_net" = some (.ref (He.ga K "is_net"))
  g_is_whole : mg "is_whole" = some (.ref (He.ga K "is_whole"))
  g_parts_of : mg "parts_of" = some (.ref (He.ga K "parts_of"))
  n_abs : mg "abs" = none
  n_all : mg "all" = none
  n_bool : mg "bool" = none
  n_int : mg "int" = none
  n_isinstance : mg "isinstance" = none
  n_len : mg "len" = none
  n_list : mg "list" = none
  n_max : mg "max" = none
  n_min : mg "min" = none
  n_range : mg "range" = none
  n_repr : mg "repr" = none
  n_str : mg "str" = none
  n_sum : mg "sum" = none
  n_tuple : mg "tuple" = none
  d_is_whole : ∃ fd, FunD K "is_whole" "is_whole" (defArgs st_is_whole) (defBody st_is_whole) (defScope st_is_whole) [] [] (He.ga K "is_whole") fd
  d_is_join : ∃ fd, FunD K "is_join" "is_join" (defArgs st_is_join) (defBody st_is_join) (defScope st_is_join) [] [] (He.ga K "is_join") fd
  d_is_begun : ∃ fd, FunD K "is_begun" "is_begun" (defArgs st_is_begun) (defBody st_is_begun) (defScope st_is_begun) [] [] (He.ga K "is_begun") fd
  d_parts_of : ∃ fd, FunD K "parts_of" "parts_of" (defArgs st_parts_of) (defBody st_parts_of) (defScope st_parts_of) [] [] (He.ga K "parts_of") fd
  d_is_net : ∃ fd, FunD K "is_net" "is_net" (defArgs st_is_net) (defBody st_is_net) (defScope st_is_net) [] [] (He.ga K "is_net") fd
  d__law_pot : ∃ fd, FunD K "_law_pot" "_law_pot" (defArgs st__law_pot) (defBody st__law_pot) (defScope st__law_pot) [] [] (He.ga K "_law_pot") fd
  d__law_take : ∃ fd, FunD K "_law_take" "_law_take" (defArgs st__law_take) (defBody st__law_take) (defScope st__law_take) [] [] (He.ga K "_law_take") fd
  d__law_of : ∃ fd, FunD K "_law_of" "_law_of" (defArgs st__law_of) (defBody st__law_of) (defScope st__law_of) [] [] (He.ga K "_law_of") fd
  d__law_number : ∃ fd, FunD K "_law_number" "_law_number" (defArgs st__law_number) (defBody st__law_number) (defScope st__law_number) [] [] (He.ga K "_law_number") fd
  d__law_net : ∃ fd, FunD K "_law_net" "_law_net" (defArgs st__law_net) (defBody st__law_net) (defScope st__law_net) [] [] (He.ga K "_law_net") fd
  d__law_joins : ∃ fd, FunD K "_law_joins" "_law_joins" (defArgs st__law_joins) (defBody st__law_joins) (defScope st__law_joins) [] [] (He.ga K "_law_joins") fd
  d__law_due : ∃ fd, FunD K "_law_due" "_law_due" (defArgs st__law_due) (defBody st__law_due) (defScope st__law_due) [] [] (He.ga K "_law_due") fd
  d__law_odd : ∃ fd, FunD K "_law_odd" "_law_odd" (defArgs st__law_odd) (defBody st__law_odd) (defScope st__law_odd) [] [] (He.ga K "_law_odd") fd
  d__law_otherwise : ∃ fd, FunD K "_law_otherwise" "_law_otherwise" (defArgs st__law_otherwise) (defBody st__law_otherwise) (defScope st__law_otherwise) [] [] (He.ga K "_law_otherwise") fd
  d__law_deep : ∃ fd, FunD K "_law_deep" "_law_deep" (defArgs st__law_deep) (defBody st__law_deep) (defScope st__law_deep) [] [] (He.ga K "_law_deep") fd
  d__law_asked_right : ∃ fd, FunD K "_law_asked_right" "_law_asked_right" (defArgs st__law_asked_right) (defBody st__law_asked_right) (defScope st__law_asked_right) [] [] (He.ga K "_law_asked_right") fd
  d__law_right : ∃ fd, FunD K "_law_right" "_law_right" (defArgs st__law_right) (defBody st__law_right) (defScope st__law_right) [] [] (He.ga K "_law_right") fd
  d_law : ∃ fd, FunD K "law" "law" (defArgs st_law) (defBody st_law) (defScope st_law) [] [] (He.ga K "law") fd
  k_HOURED : He.tupB K "HOURED" [.str "not_before", .str "given_up"] = true
  k_MEETINGS : He.tupB K "MEETINGS" [.str "after", .str "last", .str "first"] = true
  k_MOST_JOINS : ∃ t, mg "MOST_JOINS" = some (.int 12 t)
  cls : ClsOk K itab
section
variable {P : Program} {w : World} {K : PySem.W.Frag} {mg : Str → Option Value} {base : Heap}
def Ok_is_whole (P : Program) (w : World) (K : PySem.W.Frag) (mg : Str → Option Value) (base : Heap) : Prop := ∃ fd, FnG P w K mg base 1 (He.ga K "is_whole") fd ["thing"] (spF K 1 fn_is_whole) ∧ PySem.W.keepIn K (.ref (He.ga K "is_whole")) = true ∧ Bd K fd ["thing"] 1 [] [0] []
theorem ok_is_whole (c : Fx K mg)  : Ok_is_whole P w K mg base := by
  obtain ⟨fd, F⟩ := c.d_is_whole
  refine ⟨fd, fn_ok (N := ["thing"]) F sc_is_whole (b := b_is_whole) (fun cdv A outer s H E hg hr => ?_), F.kp, bd0 F (fun _ _ _ _ _ _ us hl => match us, hl with | [_], _ => rfl)⟩
  have tk := takes_of (X := cxOf (L2.CX P w) P w K mg base ["thing"] "is_whole" (defScope st_is_whole) (He.ga K "is_whole") cdv A outer s H E) (E := E) rfl rfl rfl rfl
  have hp := passes_of (X := cxOf (L2.CX P w) P w K mg base ["thing"] "is_whole" (defScope st_is_whole) (He.ga K "is_whole") cdv A outer s H E) rfl
  exact s_cons (s_ret (e_and (e_isi (k := .ty "int") c.cls rfl c.n_isinstance (e_v 0) (pe_bltn (v := .ty "int") rfl c.n_int (by decide +kernel) rfl) ck_ty) (e_one (e_not (e_isi (k := .ty "bool") c.cls rfl c.n_isinstance (e_v 0) (pe_bltn (v := .ty "bool") rfl c.n_bool (by decide +kernel) rfl) ck_ty))))) (s_nil)
def Ok_is_join (P : Program) (w : World) (K : PySem.W.Frag) (mg : Str → Option Value) (base : Heap) : Prop := ∃ fd, FnG P w K mg base 1 (He.ga K "is_join") fd ["net"] (spF K 1 fn_is_join) ∧ PySem.W.keepIn K (.ref (He.ga K "is_join")) = true ∧ Bd K fd ["net"] 1 [] [0] []
theorem ok_is_join (c : Fx K mg)  : Ok_is_join P w K mg base := by
  obtain ⟨fd, F⟩ := c.d_is_join
  refine ⟨fd, fn_ok (N := ["net"]) F sc_is_join (b := b_is_join) (fun cdv A outer s H E hg hr => ?_), F.kp, bd0 F (fun _ _ _ _ _ _ us hl => match us, hl with | [_], _ => rfl)⟩
  have tk := takes_of (X := cxOf (L2.CX P w) P w K mg base ["net"] "is_join" (defScope st_is_join) (He.ga K "is_join") cdv A outer s H E) (E := E) rfl rfl rfl rfl
  have hp := passes_of (X := cxOf (L2.CX P w) P w K mg base ["net"] "is_join" (defScope st_is_join) (He.ga K "is_join") cdv A outer s H E) rfl
  exact s_cons (s_ret (e_or (e_cmp (o_inP (room65 hr)) rfl (e_ix (e_v 0) (e_int) (fun _ _ => rfl)) (e_kon (vs := [.str "after", .str "last", .str "first"]) rfl c.g_MEETINGS c.k_MEETINGS (fun _ _ => .cons (.str _) (.cons (.str _) (.cons (.str _) (.nil)))))) (e_one (e_cmp (o_inP (room65 hr)) rfl (e_ix (e_v 0) (e_int) (fun _ _ => rfl)) (e_kon (vs := [.str "not_before", .str "given_up"]) rfl c.g_HOURED c.k_HOURED (fun _ _ => .cons (.str _) (.cons (.str _) (.nil)))))))) (s_nil)
def Ok_is_begun (P : Program) (w : World) (K : PySem.W.Frag) (mg : Str → Option Value) (base : Heap) : Prop := ∃ fd, FnG P w K mg base 2 (He.ga K "is_begun") fd ["thing", "many"] (spF K 2 fn_is_begun) ∧ PySem.W.keepIn K (.ref (He.ga K "is_begun")) = true ∧ Bd K fd ["thing", "many"] 2 [] [0, 1] []
theorem ok_is_begun (c : Fx K mg) (h_is_whole : Ok_is_whole P w K mg base) : Ok_is_begun P w K mg base := by
  obtain ⟨fd, F⟩ := c.d_is_begun
  obtain ⟨fd_is_whole, G_is_whole, k_is_whole, B_is_whole_1_⟩ := h_is_whole
  refine ⟨fd, fn_ok (N := ["thing", "many", "word"]) F sc_is_begun (b := b_is_begun) (fun cdv A outer s H E hg hr => ?_), F.kp, bd0 F (fun _ _ _ _ _ _ us hl => match us, hl with | [_, _], _ => rfl)⟩
  have tk := takes_of (X := cxOf (L2.CX P w) P w K mg base ["thing", "many", "word"] "is_begun" (defScope st_is_begun) (He.ga K "is_begun") cdv A outer s H E) (E := E) rfl rfl rfl rfl
  have hp := passes_of (X := cxOf (L2.CX P w) P w K mg base ["thing", "many", "word"] "is_begun" (defScope st_is_begun) (He.ga K "is_begun") cdv A outer s H E) rfl
  exact s_cons (s_if (PW.pt (w_or (t_not (t_of (e_isi (k := .ty "tuple") c.cls rfl c.n_isinstance (e_v 0) (pe_bltn (v := .ty "tuple") rfl c.n_tuple (by decide +kernel) rfl) ck_ty))) (w_or (t_cmp o_lt (nomark _) (e_callB (id := "len") c_len rfl c.n_len (by decide +kernel) (a_cons (e_v 0) (a_nil))) (e_int)) (w_or1 (t_not (t_of (e_isi (k := .ty "str") c.cls rfl c.n_isinstance (e_ix (e_v 0) (e_int) (fun _ _ => rfl)) (pe_bltn (v := .ty "str") rfl c.n_str (by decide +kernel) rfl) ck_ty))))))) (s_cons (s_ret (e_bl)) (s_nil)) (s_nil)) (s_cons (s_set (i := 2) sc_is_begun.nd rfl (Or.inl rfl) (e_ix (e_v 0) (e_int) (fun _ _ => rfl))) (s_cons (s_if (t_cmp (o_eq hr.units) (nomark _) (e_v 2) (e_str)) (s_cons (s_ret (e_and (e_cmp (o_eq hr.units) (nomark _) (e_callB (id := "len") c_len rfl c.n_len (by decide +kernel) (a_cons (e_v 0) (a_nil))) (e_int)) (e_and (e_call G_is_whole (hr.mono (by decide)) hg tk rfl c.g_is_whole k_is_whole B_is_whole_1_ (fun ds h => match ds, h with | [_], _ => rfl) (a_cons (e_ix (e_v 0) (e_int) (fun _ _ => rfl)) (a_nil))) (e_one (e_chain o_le calm_cmp o_lt calm_cmp (e_int) (e_ix (e_v 0) (e_int) (fun _ _ => rfl)) (e_v 1)))))) (s_nil)) (s_nil)) (s_cons (s_if (t_cmp (o_eq hr.units) (nomark _) (e_v 2) (e_str)) (s_cons (s_ret (e_and (e_cmp (o_eq hr.units) (nomark _) (e_callB (id := "len") c_len rfl c.n_len (by decide +kernel) (a_cons (e_v 0) (a_nil))) (e_int)) (e_and (e_call G_is_whole (hr.mono (by decide)) hg tk rfl c.g_is_whole k_is_whole B_is_whole_1_ (fun ds h => match ds, h with | [_], _ => rfl) (a_cons (e_ix (e_v 0) (e_int) (fun _ _ => rfl)) (a_nil))) (e_one (e_cmp o_ge (nomark _) (e_ix (e_v 0) (e_int) (fun _ _ => rfl)) (e_int)))))) (s_nil)) (s_nil)) (s_cons (s_if (t_cmp (o_inP (room65 hr)) rfl (e_v 2) (e_kon (vs := [.str "not_before", .str "given_up"]) rfl c.g_HOURED c.k_HOURED (fun _ _ => .cons (.str _) (.cons (.str _) (.nil))))) (s_cons (s_ret (e_cmp (o_eq hr.units) (nomark _) (e_callB (id := "len") c_len rfl c.n_len (by decide +kernel) (a_cons (e_v 0) (a_nil))) (e_int))) (s_nil)) (s_nil)) (s_cons (s_ret (e_and (e_cmp (o_inP (room65 hr)) rfl (e_v 2) (e_kon (vs := [.str "after", .str "last", .str "first"]) rfl c.g_MEETINGS c.k_MEETINGS (fun _ _ => .cons (.str _) (.cons (.str _) (.cons (.str _) (.nil)))))) (e_one (e_chain o_le calm_cmp o_le calm_cmp (e_int) (e_callB (id := "len") c_len rfl c.n_len (by decide +kernel) (a_cons (e_v 0) (a_nil))) (e_int))))) (s_nil))))))
def Ok_parts_of (P : Program) (w : World) (K : PySem.W.Frag) (mg : Str → Option Value) (base : Heap) : Prop := ∃ fd, FnG P w K mg base 1 (He.ga K "parts_of") fd ["net"] (spF K 1 fn_parts_of) ∧ PySem.W.keepIn K (.ref (He.ga K "parts_of")) = true ∧ Bd K fd ["net"] 1 [] [0] []
theorem ok_parts_of (c : Fx K mg)  : Ok_parts_of P w K mg base := by
  obtain ⟨fd, F⟩ := c.d_parts_of
  refine ⟨fd, fn_ok (N := ["net"]) F sc_parts_of (b := b_parts_of) (fun cdv A outer s H E hg hr => ?_), F.kp, bd0 F (fun _ _ _ _ _ _ us hl => match us, hl with | [_], _ => rfl)⟩
  have tk := takes_of (X := cxOf (L2.CX P w) P w K mg base ["net"] "parts_of" (defScope st_parts_of) (He.ga K "parts_of") cdv A outer s H E) (E := E) rfl rfl rfl rfl
  have hp := passes_of (X := cxOf (L2.CX P w) P w K mg base ["net"] "parts_of" (defScope st_parts_of) (He.ga K "parts_of") cdv A outer s H E) rfl
  exact s_cons (s_if (t_cmp (o_inP (room65 hr)) rfl (e_ix (e_v 0) (e_int) (fun _ _ => rfl)) (e_kon (vs := [.str "not_before", .str "given_up"]) rfl c.g_HOURED c.k_HOURED (fun _ _ => .cons (.str _) (.cons (.str _) (.nil))))) (s_cons (s_ret (e_tup (a_cons (e_tup (a_cons (e_str) (a_cons (e_ix (e_v 0) (e_int) (fun _ _ => rfl)) (a_nil)))) (a_cons (e_ix (e_v 0) (e_int) (fun _ _ => rfl)) (a_nil))))) (s_nil)) (s_nil)) (s_cons (s_if (t_cmp (o_inP (room65 hr)) rfl (e_ix (e_v 0) (e_int) (fun _ _ => rfl)) (e_kon (vs := [.str "after", .str "last", .str "first"]) rfl c.g_MEETINGS c.k_MEETINGS (fun _ _ => .cons (.str _) (.cons (.str _) (.cons (.str _) (.nil)))))) (s_cons (s_ret (e_sl (e_v 0) (p_some (e_int)) (p_none))) (s_nil)) (s_nil)) (s_cons (s_ret (e_tup (a_nil))) (s_nil)))
def Ok_is_net (P : Program) (w : World) (K : PySem.W.Frag) (mg : Str → Option Value) (base : Heap) : Prop := ∃ fd, FnG P w K mg base 3 (He.ga K "is_net") fd ["thing", "many"] (spF K 2 fn_is_net) ∧ PySem.W.keepIn K (.ref (He.ga K "is_net")) = true ∧ Bd K fd ["thing", "many"] 0 ["thing", "many"] [0, 1] [] ∧ Bd K fd ["thing", "many"] 2 [] [0, 1] []
theorem ok_is_net (c : Fx K mg) (h_is_join : Ok_is_join P w K mg base) (h_parts_of : Ok_parts_of P w K mg base) (h_is_begun : Ok_is_begun P w K mg base) : Ok_is_net P w K mg base := by
  obtain ⟨fd, F⟩ := c.d_is_net
  obtain ⟨fd_is_join, G_is_join, k_is_join, B_is_join_1_⟩ := h_is_join
  obtain ⟨fd_parts_of, G_parts_of, k_parts_of, B_parts_of_1_⟩ := h_parts_of
  obtain ⟨fd_is_begun, G_is_begun, k_is_begun, B_is_begun_2_⟩ := h_is_begun
  refine ⟨fd, fn_ok (N := ["thing", "many", "joins", "waiting", "one"]) F sc_is_net (b := b_is_net) (fun cdv A outer s H E hg hr => ?_), F.kp, bd0 F (fun _ _ _ _ _ _ us hl => match us, hl with | [_, _], _ => rfl), bd0 F (fun _ _ _ _ _ _ us hl => match us, hl with | [_, _], _ => rfl)⟩
  have tk := takes_of (X := cxOf (L2.CX P w) P w K mg base ["thing", "many", "joins", "waiting", "one"] "is_net" (defScope st_is_net) (He.ga K "is_net") cdv A outer s H E) (E := E) rfl rfl rfl rfl
  have hp := passes_of (X := cxOf (L2.CX P w) P w K mg base ["thing", "many", "joins", "waiting", "one"] "is_net" (defScope st_is_net) (He.ga K "is_net") cdv A outer s H E) rfl
  exact s_cons (s_set (i := 2) sc_is_net.nd rfl (Or.inl rfl) (e_int)) (s_cons (s_set (i := 3) sc_is_net.nd rfl (Or.inl rfl) (e_lst (a_cons (e_v 0) (a_nil)))) (s_cons (s_while hp (t_of (e_v 3)) (s_cons (s_set (i := 4) sc_is_net.nd rfl (Or.inl rfl) (e_meth0 PySem.F.plainAttrs_list PySem.F.slot_list_pop PySem.F.type_list_pop m_pop ty_lst q_pop (e_v 3))) (s_cons (s_if (t_not (t_of (e_call G_is_begun (hr.mono (by decide)) hg tk rfl c.g_is_begun k_is_begun B_is_begun_2_ (fun ds h => match ds, h with | [_, _], _ => rfl) (a_cons (e_v 4) (a_cons (e_v 1) (a_nil)))))) (s_cons (s_ret (e_bl)) (s_nil)) (s_nil)) (s_cons (s_if (t_of (e_call G_is_join (hr.mono (by decide)) hg tk rfl c.g_is_join k_is_join B_is_join_1_ (fun ds h => match ds, h with | [_], _ => rfl) (a_cons (e_v 4) (a_nil)))) (s_cons (s_augI (i := 2) sc_is_net.nd rfl (Or.inl rfl) (e_int) ip_add) (s_cons (s_if (t_cmp o_gt (nomark _) (e_v 2) (e_konI rfl c.k_MOST_JOINS)) (s_cons (s_ret (e_bl)) (s_nil)) (s_nil)) (s_cons (s_ex (e_meth PySem.F.plainAttrs_list PySem.F.slot_list_extend PySem.F.type_list_extend m_ext ty_lst q_ext (e_v 3) (a_cons (e_call G_parts_of (hr.mono (by decide)) hg tk rfl c.g_parts_of k_parts_of B_parts_of_1_ (fun ds h => match ds, h with | [_], _ => rfl) (a_cons (e_v 4) (a_nil))) (a_nil)))) (s_nil)))) (s_nil)) (s_nil))))) (s_cons (s_ret (e_bl)) (s_nil))))
def Ok__law_pot (P : Program) (w : World) (K : PySem.W.Frag) (mg : Str → Option Value) (base : Heap) : Prop := ∃ fd, FnG P w K mg base 1 (He.ga K "_law_pot") fd ["_law_script", "_law_k"] (spF K 2 fn__law_pot) ∧ PySem.W.keepIn K (.ref (He.ga K "_law_pot")) = true ∧ Bd K fd ["_law_script", "_law_k"] 2 [] [0, 1] []
theorem ok__law_pot (c : Fx K mg)  : Ok__law_pot P w K mg base := by
  obtain ⟨fd, F⟩ := c.d__law_pot
  refine ⟨fd, fn_ok (N := ["_law_script", "_law_k", "_law_cell", "_law_great"]) F sc__law_pot (b := b__law_pot) (fun cdv A outer s H E hg hr => ?_), F.kp, bd0 F (fun _ _ _ _ _ _ us hl => match us, hl with | [_, _], _ => rfl)⟩
  have tk := takes_of (X := cxOf (L2.CX P w) P w K mg base ["_law_script", "_law_k", "_law_cell", "_law_great"] "_law_pot" (defScope st__law_pot) (He.ga K "_law_pot") cdv A outer s H E) (E := E) rfl rfl rfl rfl
  have hp := passes_of (X := cxOf (L2.CX P w) P w K mg base ["_law_script", "_law_k", "_law_cell", "_law_great"] "_law_pot" (defScope st__law_pot) (He.ga K "_law_pot") cdv A outer s H E) rfl
  exact s_cons (s_set (i := 2) sc__law_pot.nd rfl (Or.inl rfl) (e_bin o_add (e_bin o_mul (e_int) (e_v 1)) (e_callB (id := "len") c_len rfl c.n_len (by decide +kernel) (a_cons (e_v 0) (a_nil))))) (s_cons (s_if (t_cmp o_lt (nomark _) (e_v 1) (e_callB (id := "len") c_len rfl c.n_len (by decide +kernel) (a_cons (e_v 0) (a_nil)))) (s_cons (s_set (i := 2) sc__law_pot.nd rfl (Or.inl rfl) (e_ix (e_v 0) (e_v 1) (fun _ _ => rfl))) (s_nil)) (s_nil)) (s_cons (s_set (i := 3) sc__law_pot.nd rfl (Or.inl rfl) (e_bin o_mul (e_bin o_mod (e_callB (id := "abs") c_abs rfl c.n_abs (by decide +kernel) (a_cons (e_v 2) (a_nil))) (e_callT (T := "int") c_int rfl c.n_int (by decide +kernel) (a_cons (e_bin o_add (e_str) (e_bin o_mul (e_str) (e_int))) (a_nil)))) (e_callT (T := "int") c_int rfl c.n_int (by decide +kernel) (a_cons (e_cmp o_ge (nomark _) (e_callB (id := "abs") c_abs rfl c.n_abs (by decide +kernel) (a_cons (e_v 2) (a_nil))) (e_bin o_pow (e_int) (e_int))) (a_nil))))) (s_cons (s_ret (e_lst (a_cons (e_v 3) (a_cons (e_bin o_mod (e_bin o_mul (e_bin o_add (e_bin o_add (e_bin o_mod (e_v 2) (e_int)) (e_bin o_mul (e_bin o_mul (e_int) (e_v 1)) (e_v 1))) (e_int)) (e_int)) (e_int)) (a_nil))))) (s_nil))))
def Ok__law_take (P : Program) (w : World) (K : PySem.W.Frag) (mg : Str → Option Value) (base : Heap) : Prop := ∃ fd, FnG P w K mg base 1 (He.ga K "_law_take") fd ["_law_pot_here", "_law_upto"] (spF K 2 fn__law_take) ∧ PySem.W.keepIn K (.ref (He.ga K "_law_take")) = true ∧ Bd K fd ["_law_pot_here", "_law_upto"] 2 [] [0, 1] []
theorem ok__law_take (c : Fx K mg)  : Ok__law_take P w K mg base := by
  obtain ⟨fd, F⟩ := c.d__law_take
  refine ⟨fd, fn_ok (N := ["_law_pot_here", "_law_upto", "_law_digit"]) F sc__law_take (b := b__law_take) (fun cdv A outer s H E hg hr => ?_), F.kp, bd0 F (fun _ _ _ _ _ _ us hl => match us, hl with | [_, _], _ => rfl)⟩
  have tk := takes_of (X := cxOf (L2.CX P w) P w K mg base ["_law_pot_here", "_law_upto", "_law_digit"] "_law_take" (defScope st__law_take) (He.ga K "_law_take") cdv A outer s H E) (E := E) rfl rfl rfl rfl
  have hp := passes_of (X := cxOf (L2.CX P w) P w K mg base ["_law_pot_here", "_law_upto", "_law_digit"] "_law_take" (defScope st__law_take) (He.ga K "_law_take") cdv A outer s H E) rfl
  exact s_cons (s_if (t_cmp o_gt (nomark _) (e_ix (e_v 0) (e_int) (fun _ _ => rfl)) (e_int)) (s_cons (s_set (i := 2) sc__law_take.nd rfl (Or.inl rfl) (e_bin o_mod (e_ix (e_v 0) (e_int) (fun _ _ => rfl)) (e_v 1))) (s_cons (s_sub (e_bin o_div (e_ix (e_v 0) (e_int) (fun _ _ => rfl)) (e_v 1)) (e_v 0) (e_int) (pg_sub (e_v 0) (e_int) set_list)) (s_cons (s_ret (e_v 2)) (s_nil)))) (s_nil)) (s_cons (s_sub (e_bin o_mod (e_bin o_add (e_bin o_mul (e_ix (e_v 0) (e_int) (fun _ _ => rfl)) (e_int)) (e_int)) (e_int)) (e_v 0) (e_int) (pg_sub (e_v 0) (e_int) set_list)) (s_cons (s_ret (e_bin o_mod (e_bin o_div (e_bin o_mod (e_bin o_mul (e_bin o_div (e_ix (e_v 0) (e_int) (fun _ _ => rfl)) (e_int)) (e_bin o_add (e_bin o_mod (e_ix (e_v 0) (e_int) (fun _ _ => rfl)) (e_int)) (e_int))) (e_int)) (e_int)) (e_v 1))) (s_nil)))
def Ok__law_of (P : Program) (w : World) (K : PySem.W.Frag) (mg : Str → Option Value) (base : Heap) : Prop := ∃ fd, FnG P w K mg base 2 (He.ga K "_law_of") fd ["_law_pot_here", "_law_some"] (spF K 2 fn__law_of) ∧ PySem.W.keepIn K (.ref (He.ga K "_law_of")) = true ∧ Bd K fd ["_law_pot_here", "_law_some"] 2 [] [0, 1] []
theorem ok__law_of (c : Fx K mg) (h__law_take : Ok__law_take P w K mg base) : Ok__law_of P w K mg base := by
  obtain ⟨fd, F⟩ := c.d__law_of
  obtain ⟨fd__law_take, G__law_take, k__law_take, B__law_take_2_⟩ := h__law_take
  refine ⟨fd, fn_ok (N := ["_law_pot_here", "_law_some"]) F sc__law_of (b := b__law_of) (fun cdv A outer s H E hg hr => ?_), F.kp, bd0 F (fun _ _ _ _ _ _ us hl => match us, hl with | [_, _], _ => rfl)⟩
  have tk := takes_of (X := cxOf (L2.CX P w) P w K mg base ["_law_pot_here", "_law_some"] "_law_of" (defScope st__law_of) (He.ga K "_law_of") cdv A outer s H E) (E := E) rfl rfl rfl rfl
  have hp := passes_of (X := cxOf (L2.CX P w) P w K mg base ["_law_pot_here", "_law_some"] "_law_of" (defScope st__law_of) (He.ga K "_law_of") cdv A outer s H E) rfl
  exact s_cons (s_ret (e_ix (e_v 1) (e_call G__law_take (hr.mono (by decide)) hg tk rfl c.g__law_take k__law_take B__law_take_2_ (fun ds h => match ds, h with | [_, _], _ => rfl) (a_cons (e_v 0) (a_cons (e_callB (id := "len") c_len rfl c.n_len (by decide +kernel) (a_cons (e_v 1) (a_nil))) (a_nil)))) (fun _ _ => rfl))) (s_nil)
def Ok__law_number (P : Program) (w : World) (K : PySem.W.Frag) (mg : Str → Option Value) (base : Heap) : Prop := ∃ fd, FnG P w K mg base 3 (He.ga K "_law_number") fd ["_law_pot_here"] (spF K 1 fn__law_number) ∧ PySem.W.keepIn K (.ref (He.ga K "_law_number")) = true ∧ Bd K fd ["_law_pot_here"] 1 [] [0] []
theorem ok__law_number (c : Fx K mg) (h__law_of : Ok__law_of P w K mg base) (h__law_take : Ok__law_take P w K mg base) : Ok__law_number P w K mg base := by
  obtain ⟨fd, F⟩ := c.d__law_number
  obtain ⟨fd__law_of, G__law_of, k__law_of, B__law_of_2_⟩ := h__law_of
  obtain ⟨fd__law_take, G__law_take, k__law_take, B__law_take_2_⟩ := h__law_take
  refine ⟨fd, fn_ok (N := ["_law_pot_here"]) F sc__law_number (b := b__law_number) (fun cdv A outer s H E hg hr => ?_), F.kp, bd0 F (fun _ _ _ _ _ _ us hl => match us, hl with | [_], _ => rfl)⟩
  have tk := takes_of (X := cxOf (L2.CX P w) P w K mg base ["_law_pot_here"] "_law_number" (defScope st__law_number) (He.ga K "_law_number") cdv A outer s H E) (E := E) rfl rfl rfl rfl
  have hp := passes_of (X := cxOf (L2.CX P w) P w K mg base ["_law_pot_here"] "_law_number" (defScope st__law_number) (He.ga K "_law_number") cdv A outer s H E) rfl
  exact s_cons (s_ret (e_call G__law_of (hr.mono (by decide)) hg tk rfl c.g__law_of k__law_of B__law_of_2_ (fun ds h => match ds, h with | [_, _], _ => rfl) (a_cons (e_v 0) (a_cons (e_lst (a_cons (e_int) (a_cons (e_int) (a_cons (e_int) (a_cons (e_int) (a_cons (e_int) (a_cons (e_call G__law_take (hr.mono (by decide)) hg tk rfl c.g__law_take k__law_take B__law_take_2_ (fun ds h => match ds, h with | [_, _], _ => rfl) (a_cons (e_v 0) (a_cons (e_int) (a_nil)))) (a_cons (e_call G__law_take (hr.mono (by decide)) hg tk rfl c.g__law_take k__law_take B__law_take_2_ (fun ds h => match ds, h with | [_, _], _ => rfl) (a_cons (e_v 0) (a_cons (e_bin o_pow (e_int) (e_int)) (a_nil)))) (a_nil))))))))) (a_nil))))) (s_nil)
def Ok__law_net (n : Nat) (P : Program) (w : World) (K : PySem.W.Frag) (mg : Str → Option Value) (base : Heap) : Prop := ∃ fd, FnG P w K mg base (3 + n) (He.ga K "_law_net") fd ["_law_pot_here", "_law_count", "_law_left"] (spF K 3 (fn__law_net n)) ∧ PySem.W.keepIn K (.ref (He.ga K "_law_net")) = true ∧ Bd K fd ["_law_pot_here", "_law_count", "_law_left"] 3 [] [0, 1, 2] []
theorem ok__law_net (c : Fx K mg) (h__law_of : Ok__law_of P w K mg base) (h__law_number : Ok__law_number P w K mg base) (h__law_take : Ok__law_take P w K mg base) : ∀ n, Ok__law_net n P w K mg base := by
  obtain ⟨fd, F⟩ := c.d__law_net
  obtain ⟨fd__law_of, G__law_of, k__law_of, B__law_of_2_⟩ := h__law_of
  obtain ⟨fd__law_number, G__law_number, k__law_number, B__law_number_1_⟩ := h__law_number
  obtain ⟨fd__law_take, G__law_take, k__law_take, B__law_take_2_⟩ := h__law_take
  intro n
  induction n with
  | zero => exact ⟨fd, fn_none, F.kp, bd0 F (fun _ _ _ _ _ _ us hl => match us, hl with | [_, _, _], _ => rfl)⟩
  | succ n ih =>
  obtain ⟨fd_rec, G_rec, k_rec, B_rec_3_⟩ := ih
  refine ⟨fd, fn_ok (k := 3 + n) (N := ["_law_pot_here", "_law_count", "_law_left", "_law_word", "_law_parts", "_law_number_here", "_law_turn"]) F sc__law_net (b := b__law_net (fn__law_net n)) (fun cdv A outer s H E hg hr => ?_), F.kp, bd0 F (fun _ _ _ _ _ _ us hl => match us, hl with | [_, _, _], _ => rfl)⟩
  have tk := takes_of (X := cxOf (L2.CX P w) P w K mg base ["_law_pot_here", "_law_count", "_law_left", "_law_word", "_law_parts", "_law_number_here", "_law_turn"] "_law_net" (defScope st__law_net) (He.ga K "_law_net") cdv A outer s H E) (E := E) rfl rfl rfl rfl
  have hp := passes_of (X := cxOf (L2.CX P w) P w K mg base ["_law_pot_here", "_law_count", "_law_left", "_law_word", "_law_parts", "_law_number_here", "_law_turn"] "_law_net" (defScope st__law_net) (He.ga K "_law_net") cdv A outer s H E) rfl
  exact s_cons (s_if (PW.pt (w_or (t_cmp (o_eq hr.units) (nomark _) (e_ix (e_v 2) (e_int) (fun _ _ => rfl)) (e_int)) (w_or1 (t_cmp (o_eq hr.units) (nomark _) (e_call G__law_take (hr.mono (by omega)) hg tk rfl c.g__law_take k__law_take B__law_take_2_ (fun ds h => match ds, h with | [_, _], _ => rfl) (a_cons (e_v 0) (a_cons (e_int) (a_nil)))) (e_int))))) (s_cons (s_ret (e_if (t_cmp o_gt (nomark _) (e_call G__law_take (hr.mono (by omega)) hg tk rfl c.g__law_take k__law_take B__law_take_2_ (fun ds h => match ds, h with | [_, _], _ => rfl) (a_cons (e_v 0) (a_cons (e_int) (a_nil)))) (e_int)) (e_tup (a_cons (e_str) (a_cons (e_call G__law_take (hr.mono (by omega)) hg tk rfl c.g__law_take k__law_take B__law_take_2_ (fun ds h => match ds, h with | [_, _], _ => rfl) (a_cons (e_v 0) (a_cons (e_v 1) (a_nil)))) (a_nil)))) (e_tup (a_cons (e_str) (a_cons (e_call G__law_number (hr.mono (by omega)) hg tk rfl c.g__law_number k__law_number B__law_number_1_ (fun ds h => match ds, h with | [_], _ => rfl) (a_cons (e_v 0) (a_nil))) (a_nil)))))) (s_nil)) (s_nil)) (s_cons (s_sub (e_bin o_sub (e_ix (e_v 2) (e_int) (fun _ _ => rfl)) (e_int)) (e_v 2) (e_int) (pg_sub (e_v 2) (e_int) set_list)) (s_cons (s_set (i := 3) sc__law_net.nd rfl (Or.inl rfl) (e_call G__law_of (hr.mono (by omega)) hg tk rfl c.g__law_of k__law_of B__law_of_2_ (fun ds h => match ds, h with | [_, _], _ => rfl) (a_cons (e_v 0) (a_cons (e_lst (a_cons (e_str) (a_cons (e_str) (a_cons (e_str) (a_cons (e_str) (a_cons (e_str) (a_cons (e_str) (a_cons (e_str) (a_cons (e_str) (a_nil)))))))))) (a_nil))))) (s_cons (s_if (t_cmp (o_inP (room65 hr)) rfl (e_v 3) (e_tup (a_cons (e_str) (a_cons (e_str) (a_nil))))) (s_cons (s_set (i := 5) sc__law_net.nd rfl (Or.inl rfl) (e_call G__law_number (hr.mono (by omega)) hg tk rfl c.g__law_number k__law_number B__law_number_1_ (fun ds h => match ds, h with | [_], _ => rfl) (a_cons (e_v 0) (a_nil)))) (s_cons (s_ret (e_tup (a_cons (e_v 3) (a_cons (e_v 5) (a_cons (e_call G_rec (hr.mono (by omega)) hg tk rfl c.g__law_net k_rec B_rec_3_ (fun ds h => match ds, h with | [_, _, _], _ => rfl) (a_cons (e_v 0) (a_cons (e_v 1) (a_cons (e_v 2) (a_nil))))) (a_nil)))))) (s_nil))) (s_nil)) (s_cons (s_set (i := 4) sc__law_net.nd rfl (Or.inl rfl) (e_bin o_add (e_int) (e_call G__law_of (hr.mono (by omega)) hg tk rfl c.g__law_of k__law_of B__law_of_2_ (fun ds h => match ds, h with | [_, _], _ => rfl) (a_cons (e_v 0) (a_cons (e_lst (a_cons (e_int) (a_cons (e_int) (a_cons (e_int) (a_cons (e_int) (a_nil)))))) (a_nil)))))) (s_cons (s_ret (e_bin o_add (e_tup (a_cons (e_v 3) (a_nil))) (e_callT (T := "tuple") c_tuple rfl c.n_tuple (by decide +kernel) (a_cons (e_lc (own := [("_law_turn", 6)]) rfl sc__law_net.nd (i_rng rfl c.n_range (e_v 4)) (blk_by ["_law_pot_here", "_law_count", "_law_left", "_law_word", "_law_parts", "_law_number_here", "_law_turn"] (defScope st__law_net) (by decide +kernel)) (fun _ _ _ _ _ => pg_name (i := 6) sc__law_net.nd rfl (Or.inl rfl)) (gp_nm 6) (by decide) (fun _ _ _ _ _ => pts_nil) tt_no (fun _ _ _ _ _ => e_call G_rec (hr.mono (by omega)) hg tk_no rfl c.g__law_net k_rec B_rec_3_ (fun ds h => match ds, h with | [_, _, _], _ => rfl) (a_cons (e_v 0) (a_cons (e_v 1) (a_cons (e_v 2) (a_nil)))))) (a_nil))))) (s_nil))))))
def Ok__law_joins (n : Nat) (P : Program) (w : World) (K : PySem.W.Frag) (mg : Str → Option Value) (base : Heap) : Prop := ∃ fd, FnG P w K mg base (0 + n) (He.ga K "_law_joins") fd ["_law_item", "_law_count"] (spF K 2 (fn__law_joins n)) ∧ PySem.W.keepIn K (.ref (He.ga K "_law_joins")) = true ∧ Bd K fd ["_law_item", "_law_count"] 2 [] [0, 1] []
theorem ok__law_joins (c : Fx K mg)  : ∀ n, Ok__law_joins n P w K mg base := by
  obtain ⟨fd, F⟩ := c.d__law_joins
  intro n
  induction n with
  | zero => exact ⟨fd, fn_none, F.kp, bd0 F (fun _ _ _ _ _ _ us hl => match us, hl with | [_, _], _ => rfl)⟩
  | succ n ih =>
  obtain ⟨fd_rec, G_rec, k_rec, B_rec_2_⟩ := ih
  refine ⟨fd, fn_ok (k := 0 + n) (N := ["_law_item", "_law_count", "_law_inner", "_law_found", "_law_one"]) F sc__law_joins (b := b__law_joins (fn__law_joins n)) (fun cdv A outer s H E hg hr => ?_), F.kp, bd0 F (fun _ _ _ _ _ _ us hl => match us, hl with | [_, _], _ => rfl)⟩
  have tk := takes_of (X := cxOf (L2.CX P w) P w K mg base ["_law_item", "_law_count", "_law_inner", "_law_found", "_law_one"] "_law_joins" (defScope st__law_joins) (He.ga K "_law_joins") cdv A outer s H E) (E := E) rfl rfl rfl rfl
  have hp := passes_of (X := cxOf (L2.CX P w) P w K mg base ["_law_item", "_law_count", "_law_inner", "_law_found", "_law_one"] "_law_joins" (defScope st__law_joins) (He.ga K "_law_joins") cdv A outer s H E) rfl
  exact s_cons (s_if (PW.pt (w_or (t_not (t_of (e_isi (k := .ty "tuple") c.cls rfl c.n_isinstance (e_v 0) (pe_bltn (v := .ty "tuple") rfl c.n_tuple (by decide +kernel) rfl) ck_ty))) (w_or (t_cmp (o_eq0 hr.units) (nomark _) (e_v 0) (e_tup (a_nil))) (w_or1 (t_not (t_of (e_isi (k := .ty "str") c.cls rfl c.n_isinstance (e_ix (e_v 0) (e_int) (fun _ _ => rfl)) (pe_bltn (v := .ty "str") rfl c.n_str (by decide +kernel) rfl) ck_ty))))))) (s_cons (s_ret (e_non)) (s_nil)) (s_nil)) (s_cons (s_if (t_cmp (o_inP (room65 hr)) rfl (e_ix (e_v 0) (e_int) (fun _ _ => rfl)) (e_tup (a_cons (e_str) (a_cons (e_str) (a_nil))))) (s_cons (s_if (PW.pt (w_or (t_cmp (o_ne hr.units) (nomark _) (e_callB (id := "len") c_len rfl c.n_len (by decide +kernel) (a_cons (e_v 0) (a_nil))) (e_int)) (w_or (t_not (t_of (e_isi (k := .ty "int") c.cls rfl c.n_isinstance (e_ix (e_v 0) (e_int) (fun _ _ => rfl)) (pe_bltn (v := .ty "int") rfl c.n_int (by decide +kernel) rfl) ck_ty))) (w_or (t_of (e_isi (k := .ty "bool") c.cls rfl c.n_isinstance (e_ix (e_v 0) (e_int) (fun _ _ => rfl)) (pe_bltn (v := .ty "bool") rfl c.n_bool (by decide +kernel) rfl) ck_ty)) (w_or1 (t_cmp o_lt (nomark _) (e_ix (e_v 0) (e_int) (fun _ _ => rfl)) (e_int))))))) (s_cons (s_ret (e_non)) (s_nil)) (s_nil)) (s_cons (s_ret (e_if (PW.pt (w_or (t_cmp (o_eq hr.units) (nomark _) (e_ix (e_v 0) (e_int) (fun _ _ => rfl)) (e_str)) (w_or1 (t_cmp o_lt (nomark _) (e_ix (e_v 0) (e_int) (fun _ _ => rfl)) (e_v 1))))) (e_int) (e_non))) (s_nil))) (s_nil)) (s_cons (s_set (i := 2) sc__law_joins.nd rfl (Or.inl rfl) (e_sl (e_v 0) (p_some (e_int)) (p_none))) (s_cons (s_if (t_cmp (o_inP (room65 hr)) rfl (e_ix (e_v 0) (e_int) (fun _ _ => rfl)) (e_tup (a_cons (e_str) (a_cons (e_str) (a_nil))))) (s_cons (s_if (PW.pt (w_or (t_cmp (o_ne hr.units) (nomark _) (e_callB (id := "len") c_len rfl c.n_len (by decide +kernel) (a_cons (e_v 0) (a_nil))) (e_int)) (w_or (t_not (t_of (e_isi (k := .ty "int") c.cls rfl c.n_isinstance (e_ix (e_v 0) (e_int) (fun _ _ => rfl)) (pe_bltn (v := .ty "int") rfl c.n_int (by decide +kernel) rfl) ck_ty))) (w_or (t_of (e_isi (k := .ty "bool") c.cls rfl c.n_isinstance (e_ix (e_v 0) (e_int) (fun _ _ => rfl)) (pe_bltn (v := .ty "bool") rfl c.n_bool (by decide +kernel) rfl) ck_ty)) (w_or1 (t_cmp o_lt (nomark _) (e_ix (e_v 0) (e_int) (fun _ _ => rfl)) (e_int))))))) (s_cons (s_ret (e_non)) (s_nil)) (s_nil)) (s_cons (s_set (i := 2) sc__law_joins.nd rfl (Or.inl rfl) (e_sl (e_v 0) (p_some (e_int)) (p_none))) (s_nil))) (s_cons (s_if (PW.pt (w_or (t_cmp (o_notinP (room65 hr)) rfl (e_ix (e_v 0) (e_int) (fun _ _ => rfl)) (e_tup (a_cons (e_str) (a_cons (e_str) (a_cons (e_str) (a_nil)))))) (w_or1 (t_not (t_chain o_le calm_cmp o_le calm_cmp (e_int) (e_callB (id := "len") c_len rfl c.n_len (by decide +kernel) (a_cons (e_v 0) (a_nil))) (e_int)))))) (s_cons (s_ret (e_non)) (s_nil)) (s_nil)) (s_nil))) (s_cons (s_setLc (i := 3) (own := [("_law_one", 4)]) rfl sc__law_joins.nd rfl rfl (sw_true rfl rfl rfl (by decide +kernel)) (i_seq (e_v 2)) (blk_by ["_law_item", "_law_count", "_law_inner", "_law_found", "_law_one"] (defScope st__law_joins) (by decide +kernel)) (fun _ _ _ _ _ => pg_name (i := 4) sc__law_joins.nd rfl (Or.inl rfl)) (gp_nm 4) (by decide) (fun _ _ _ _ _ => pts_nil) tt_no (fun _ _ _ _ _ => e_call G_rec (hr.mono (by omega)) hg tk_no rfl c.g__law_joins k_rec B_rec_2_ (fun ds h => match ds, h with | [_, _], _ => rfl) (a_cons (e_v 4) (a_cons (e_v 1) (a_nil))))) (s_cons (s_ret (e_if (t_cmp (o_inP (room65 hr)) rfl (e_non) (e_v 3)) (e_non) (e_bin o_add (e_int) (e_callB (id := "sum") (c_sum rfl) rfl c.n_sum (by decide +kernel) (a_cons (e_v 3) (a_nil)))))) (s_nil))))))
def Ok__law_due (P : Program) (w : World) (K : PySem.W.Frag) (mg : Str → Option Value) (base : Heap) : Prop := ∃ fd, FnG P w K mg base 61 (He.ga K "_law_due") fd ["_law_item", "_law_count"] (spF K 2 fn__law_due) ∧ PySem.W.keepIn K (.ref (He.ga K "_law_due")) = true ∧ Bd K fd ["_law_item", "_law_count"] 2 [] [0, 1] []
theorem ok__law_due (c : Fx K mg) (h__law_joins : Ok__law_joins fuel__law_joins P w K mg base) : Ok__law_due P w K mg base := by
  obtain ⟨fd, F⟩ := c.d__law_due
  obtain ⟨fd__law_joins, G__law_joins, k__law_joins, B__law_joins_2_⟩ := h__law_joins
  refine ⟨fd, fn_ok (N := ["_law_item", "_law_count", "_law_found"]) F sc__law_due (b := b__law_due) (fun cdv A outer s H E hg hr => ?_), F.kp, bd0 F (fun _ _ _ _ _ _ us hl => match us, hl with | [_, _], _ => rfl)⟩
  have tk := takes_of (X := cxOf (L2.CX P w) P w K mg base ["_law_item", "_law_count", "_law_found"] "_law_due" (defScope st__law_due) (He.ga K "_law_due") cdv A outer s H E) (E := E) rfl rfl rfl rfl
  have hp := passes_of (X := cxOf (L2.CX P w) P w K mg base ["_law_item", "_law_count", "_law_found"] "_law_due" (defScope st__law_due) (He.ga K "_law_due") cdv A outer s H E) rfl
  exact s_cons (s_set (i := 2) sc__law_due.nd rfl (Or.inl rfl) (e_call G__law_joins (hr.mono (by decide)) hg tk rfl c.g__law_joins k__law_joins B__law_joins_2_ (fun ds h => match ds, h with | [_, _], _ => rfl) (a_cons (e_v 0) (a_cons (e_v 1) (a_nil))))) (s_cons (s_ret (e_and (e_cmp o_isnot (nomark _) (e_v 2) (e_non)) (e_one (e_cmp o_le (nomark _) (e_v 2) (e_int))))) (s_nil))
def Ok__law_odd (P : Program) (w : World) (K : PySem.W.Frag) (mg : Str → Option Value) (base : Heap) : Prop := ∃ fd, FnG P w K mg base 3 (He.ga K "_law_odd") fd ["_law_pot_here", "_law_count"] (spF K 2 fn__law_odd) ∧ PySem.W.keepIn K (.ref (He.ga K "_law_odd")) = true ∧ Bd K fd ["_law_pot_here", "_law_count"] 2 [] [0, 1] []
theorem ok__law_odd (c : Fx K mg) (h__law_of : Ok__law_of P w K mg base) : Ok__law_odd P w K mg base := by
  obtain ⟨fd, F⟩ := c.d__law_odd
  obtain ⟨fd__law_of, G__law_of, k__law_of, B__law_of_2_⟩ := h__law_of
  refine ⟨fd, fn_ok (N := ["_law_pot_here", "_law_count", "_law_some"]) F sc__law_odd (b := b__law_odd) (fun cdv A outer s H E hg hr => ?_), F.kp, bd0 F (fun _ _ _ _ _ _ us hl => match us, hl with | [_, _], _ => rfl)⟩
  have tk := takes_of (X := cxOf (L2.CX P w) P w K mg base ["_law_pot_here", "_law_count", "_law_some"] "_law_odd" (defScope st__law_odd) (He.ga K "_law_odd") cdv A outer s H E) (E := E) rfl rfl rfl rfl
  have hp := passes_of (X := cxOf (L2.CX P w) P w K mg base ["_law_pot_here", "_law_count", "_law_some"] "_law_odd" (defScope st__law_odd) (He.ga K "_law_odd") cdv A outer s H E) rfl
  exact s_cons (s_set (i := 2) sc__law_odd.nd rfl (Or.inl rfl) (e_lst (a_cons (e_non) (a_cons (e_bl) (a_cons (e_bl) (a_cons (e_un o_neg (e_int)) (a_cons (e_int) (a_cons (e_v 1) (a_cons (e_int) (a_cons (e_str) (a_cons (e_str) (a_cons (e_str) (a_cons (e_str) (a_cons (e_tup (a_nil)) (a_cons (e_lst (a_nil)) (a_cons (e_emp) (a_cons (e_tup (a_cons (e_str) (a_nil))) (a_cons (e_tup (a_cons (e_str) (a_cons (e_un o_neg (e_int)) (a_nil)))) (a_nil))))))))))))))))))) (s_cons (s_set (i := 2) sc__law_odd.nd rfl (Or.inl rfl) (e_bin o_add (e_v 2) (e_lst (a_cons (e_tup (a_cons (e_str) (a_cons (e_v 1) (a_nil)))) (a_cons (e_tup (a_cons (e_str) (a_cons (e_int) (a_nil)))) (a_cons (e_tup (a_cons (e_str) (a_cons (e_int) (a_nil)))) (a_cons (e_tup (a_cons (e_str) (a_cons (e_tup (a_cons (e_str) (a_cons (e_int) (a_nil)))) (a_nil)))) (a_cons (e_lst (a_cons (e_str) (a_cons (e_int) (a_nil)))) (a_cons (e_tup (a_cons (e_str) (a_cons (e_bl) (a_nil)))) (a_nil)))))))))) (s_cons (s_ret (e_call G__law_of (hr.mono (by decide)) hg tk rfl c.g__law_of k__law_of B__law_of_2_ (fun ds h => match ds, h with | [_, _], _ => rfl) (a_cons (e_v 0) (a_cons (e_bin o_add (e_v 2) (e_lst (a_cons (e_str) (a_cons (e_str) (a_cons (e_str) (a_cons (e_str) (a_cons (e_str) (a_cons (e_bin o_add (e_tup (a_cons (e_str) (a_nil))) (e_bin o_mul (e_tup (a_cons (e_tup (a_cons (e_str) (a_cons (e_int) (a_nil)))) (a_nil))) (e_int))) (a_nil))))))))) (a_nil))))) (s_nil)))
def Ok__law_otherwise (n : Nat) (P : Program) (w : World) (K : PySem.W.Frag) (mg : Str → Option Value) (base : Heap) : Prop := ∃ fd, FnG P w K mg base (3 + n) (He.ga K "_law_otherwise") fd ["_law_pot_here", "_law_item", "_law_count"] (spF K 3 (fn__law_otherwise n)) ∧ PySem.W.keepIn K (.ref (He.ga K "_law_otherwise")) = true ∧ Bd K fd ["_law_pot_here", "_law_item", "_law_count"] 3 [] [0, 1, 2] []
theorem ok__law_otherwise (c : Fx K mg) (h__law_take : Ok__law_take P w K mg base) (h__law_odd : Ok__law_odd P w K mg base) : ∀ n, Ok__law_otherwise n P w K mg base := by
  obtain ⟨fd, F⟩ := c.d__law_otherwise
  obtain ⟨fd__law_take, G__law_take, k__law_take, B__law_take_2_⟩ := h__law_take
  obtain ⟨fd__law_odd, G__law_odd, k__law_odd, B__law_odd_2_⟩ := h__law_odd
  intro n
  induction n with
  | zero => exact ⟨fd, fn_none, F.kp, bd0 F (fun _ _ _ _ _ _ us hl => match us, hl with | [_, _, _], _ => rfl)⟩
  | succ n ih =>
  obtain ⟨fd_rec, G_rec, k_rec, B_rec_3_⟩ := ih
  refine ⟨fd, fn_ok (k := 3 + n) (N := ["_law_pot_here", "_law_item", "_law_count", "_law_way", "_law_odd_here", "_law_at", "_law_some"]) F sc__law_otherwise (b := b__law_otherwise (fn__law_otherwise n)) (fun cdv A outer s H E hg hr => ?_), F.kp, bd0 F (fun _ _ _ _ _ _ us hl => match us, hl with | [_, _, _], _ => rfl)⟩
  have tk := takes_of (X := cxOf (L2.CX P w) P w K mg base ["_law_pot_here", "_law_item", "_law_count", "_law_way", "_law_odd_here", "_law_at", "_law_some"] "_law_otherwise" (defScope st__law_otherwise) (He.ga K "_law_otherwise") cdv A outer s H E) (E := E) rfl rfl rfl rfl
  have hp := passes_of (X := cxOf (L2.CX P w) P w K mg base ["_law_pot_here", "_law_item", "_law_count", "_law_way", "_law_odd_here", "_law_at", "_law_some"] "_law_otherwise" (defScope st__law_otherwise) (He.ga K "_law_otherwise") cdv A outer s H E) rfl
  exact s_cons (s_if (PW.pt (w_and (t_of (e_isi (k := .ty "tuple") c.cls rfl c.n_isinstance (e_v 1) (pe_bltn (v := .ty "tuple") rfl c.n_tuple (by decide +kernel) rfl) ck_ty)) (w_and (t_cmp (o_ne0 hr.units) (nomark _) (e_v 1) (e_tup (a_nil))) (w_and1 (t_cmp o_gt (nomark _) (e_call G__law_take (hr.mono (by omega)) hg tk rfl c.g__law_take k__law_take B__law_take_2_ (fun ds h => match ds, h with | [_, _], _ => rfl) (a_cons (e_v 0) (a_cons (e_int) (a_nil)))) (e_int)))))) (s_cons (s_set (i := 5) sc__law_otherwise.nd rfl (Or.inl rfl) (e_call G__law_take (hr.mono (by omega)) hg tk rfl c.g__law_take k__law_take B__law_take_2_ (fun ds h => match ds, h with | [_, _], _ => rfl) (a_cons (e_v 0) (a_cons (e_callB (id := "len") c_len rfl c.n_len (by decide +kernel) (a_cons (e_v 1) (a_nil))) (a_nil))))) (s_cons (s_ret (e_bin o_add (e_bin o_add (e_sl (e_v 1) (p_none) (p_some (e_v 5))) (e_tup (a_cons (e_call G_rec (hr.mono (by omega)) hg tk rfl c.g__law_otherwise k_rec B_rec_3_ (fun ds h => match ds, h with | [_, _, _], _ => rfl) (a_cons (e_v 0) (a_cons (e_ix (e_v 1) (e_v 5) (fun _ _ => rfl)) (a_cons (e_v 2) (a_nil))))) (a_nil)))) (e_sl (e_v 1) (p_some (e_bin o_add (e_v 5) (e_int))) (p_none)))) (s_nil))) (s_nil)) (s_cons (s_par (i := 3) (j := 4) rfl sc__law_otherwise.nd rfl rfl (by decide) rfl rfl (a_cons (e_call G__law_take (hr.mono (by omega)) hg tk rfl c.g__law_take k__law_take B__law_take_2_ (fun ds h => match ds, h with | [_, _], _ => rfl) (a_cons (e_v 0) (a_cons (e_int) (a_nil)))) (a_cons (e_call G__law_odd (hr.mono (by omega)) hg tk rfl c.g__law_odd k__law_odd B__law_odd_2_ (fun ds h => match ds, h with | [_, _], _ => rfl) (a_cons (e_v 0) (a_cons (e_v 2) (a_nil)))) (a_nil))) rfl) (s_cons (s_if (PW.pt (w_or (t_not (t_of (e_isi (k := .ty "tuple") c.cls rfl c.n_isinstance (e_v 1) (pe_bltn (v := .ty "tuple") rfl c.n_tuple (by decide +kernel) rfl) ck_ty))) (w_or1 (t_cmp o_gt (nomark _) (e_v 3) (e_int))))) (s_cons (s_ret (e_v 4)) (s_nil)) (s_nil)) (s_cons (s_set (i := 5) sc__law_otherwise.nd rfl (Or.inl rfl) (e_call G__law_take (hr.mono (by omega)) hg tk rfl c.g__law_take k__law_take B__law_take_2_ (fun ds h => match ds, h with | [_, _], _ => rfl) (a_cons (e_v 0) (a_cons (e_bin o_add (e_callB (id := "len") c_len rfl c.n_len (by decide +kernel) (a_cons (e_v 1) (a_nil))) (e_int)) (a_nil))))) (s_cons (s_set (i := 6) sc__law_otherwise.nd rfl (Or.inl rfl) (e_lst (a_cons (e_bin o_add (e_sl (e_v 1) (p_none) (p_some (e_v 5))) (e_sl (e_v 1) (p_some (e_bin o_add (e_v 5) (e_int))) (p_none))) (a_cons (e_bin o_add (e_bin o_add (e_sl (e_v 1) (p_none) (p_some (e_v 5))) (e_tup (a_cons (e_v 4) (a_nil)))) (e_sl (e_v 1) (p_some (e_v 5)) (p_none))) (a_cons (e_bin o_add (e_bin o_add (e_sl (e_v 1) (p_none) (p_some (e_v 5))) (e_sl (e_v 1) (p_some (e_v 5)) (p_some (e_bin o_add (e_v 5) (e_int))))) (e_sl (e_v 1) (p_some (e_v 5)) (p_none))) (a_nil)))))) (s_cons (s_ret (e_ix (e_bin o_add (e_v 6) (e_lst (a_cons (e_callT (T := "list") c_list rfl c.n_list (by decide +kernel) (a_cons (e_v 1) (a_nil))) (a_cons (e_revT (e_v 1)) (a_nil))))) (e_v 3) (fun _ _ => rfl))) (s_nil))))))
def Ok__law_deep (P : Program) (w : World) (K : PySem.W.Frag) (mg : Str → Option Value) (base : Heap) : Prop := ∃ fd, FnG P w K mg base 3 (He.ga K "_law_deep") fd ["_law_pot_here", "_law_count", "_law_joins_here"] (spF K 3 fn__law_deep) ∧ PySem.W.keepIn K (.ref (He.ga K "_law_deep")) = true ∧ Bd K fd ["_law_pot_here", "_law_count", "_law_joins_here"] 3 [] [0, 1, 2] []
theorem ok__law_deep (c : Fx K mg) (h__law_of : Ok__law_of P w K mg base) : Ok__law_deep P w K mg base := by
  obtain ⟨fd, F⟩ := c.d__law_deep
  obtain ⟨fd__law_of, G__law_of, k__law_of, B__law_of_2_⟩ := h__law_of
  refine ⟨fd, fn_ok (N := ["_law_pot_here", "_law_count", "_law_joins_here", "_law_found", "_law_turn", "_law_word"]) F sc__law_deep (b := b__law_deep) (fun cdv A outer s H E hg hr => ?_), F.kp, bd0 F (fun _ _ _ _ _ _ us hl => match us, hl with | [_, _, _], _ => rfl)⟩
  have tk := takes_of (X := cxOf (L2.CX P w) P w K mg base ["_law_pot_here", "_law_count", "_law_joins_here", "_law_found", "_law_turn", "_law_word"] "_law_deep" (defScope st__law_deep) (He.ga K "_law_deep") cdv A outer s H E) (E := E) rfl rfl rfl rfl
  have hp := passes_of (X := cxOf (L2.CX P w) P w K mg base ["_law_pot_here", "_law_count", "_law_joins_here", "_law_found", "_law_turn", "_law_word"] "_law_deep" (defScope st__law_deep) (He.ga K "_law_deep") cdv A outer s H E) rfl
  exact s_cons (s_set (i := 3) sc__law_deep.nd rfl (Or.inl rfl) (e_tup (a_cons (e_str) (a_cons (e_bin o_sub (e_v 1) (e_int)) (a_nil))))) (s_cons (s_for hp rfl (i_rng rfl c.n_range (e_v 2)) (pg_name (i := 4) sc__law_deep.nd rfl (Or.inl rfl)) (gp_nm 4) (s_cons (s_set (i := 5) sc__law_deep.nd rfl (Or.inl rfl) (e_call G__law_of (hr.mono (by decide)) hg tk rfl c.g__law_of k__law_of B__law_of_2_ (fun ds h => match ds, h with | [_, _], _ => rfl) (a_cons (e_v 0) (a_cons (e_lst (a_cons (e_str) (a_cons (e_str) (a_cons (e_str) (a_cons (e_str) (a_cons (e_str) (a_nil))))))) (a_nil))))) (s_cons (s_if (t_cmp (o_inP (room65 hr)) rfl (e_v 5) (e_tup (a_cons (e_str) (a_cons (e_str) (a_nil))))) (s_cons (s_set (i := 3) sc__law_deep.nd rfl (Or.inl rfl) (e_tup (a_cons (e_v 5) (a_cons (e_v 4) (a_cons (e_v 3) (a_nil)))))) (s_nil)) (s_cons (s_set (i := 3) sc__law_deep.nd rfl (Or.inl rfl) (e_call G__law_of (hr.mono (by decide)) hg tk rfl c.g__law_of k__law_of B__law_of_2_ (fun ds h => match ds, h with | [_, _], _ => rfl) (a_cons (e_v 0) (a_cons (e_lst (a_cons (e_tup (a_cons (e_v 5) (a_cons (e_v 3) (a_cons (e_tup (a_cons (e_str) (a_cons (e_v 4) (a_nil)))) (a_nil))))) (a_cons (e_tup (a_cons (e_v 5) (a_cons (e_tup (a_cons (e_str) (a_cons (e_int) (a_nil)))) (a_cons (e_v 3) (a_nil))))) (a_nil)))) (a_nil))))) (s_nil))) (s_nil)))) (s_cons (s_ret (e_v 3)) (s_nil)))
def Ok__law_asked_right (P : Program) (w : World) (K : PySem.W.Frag) (mg : Str → Option Value) (base : Heap) : Prop := ∃ fd, FnG P w K mg base 62 (He.ga K "_law_asked_right") fd ["_law_item", "_law_count"] (spF K 2 fn__law_asked_right) ∧ PySem.W.keepIn K (.ref (He.ga K "_law_asked_right")) = true ∧ Bd K fd ["_law_item", "_law_count"] 2 [] [0, 1] []
theorem ok__law_asked_right (c : Fx K mg) (h_is_net : Ok_is_net P w K mg base) (h__law_due : Ok__law_due P w K mg base) : Ok__law_asked_right P w K mg base := by
  obtain ⟨fd, F⟩ := c.d__law_asked_right
  obtain ⟨fd_is_net, G_is_net, k_is_net, B_is_net_0_thing_many, B_is_net_2_⟩ := h_is_net
  obtain ⟨fd__law_due, G__law_due, k__law_due, B__law_due_2_⟩ := h__law_due
  refine ⟨fd, fn_ok (N := ["_law_item", "_law_count", "_law_kept", "_law_due_here", "_law_told"]) F sc__law_asked_right (b := b__law_asked_right) (fun cdv A outer s H E hg hr => ?_), F.kp, bd0 F (fun _ _ _ _ _ _ us hl => match us, hl with | [_, _], _ => rfl)⟩
  have tk := takes_of (X := cxOf (L2.CX P w) P w K mg base ["_law_item", "_law_count", "_law_kept", "_law_due_here", "_law_told"] "_law_asked_right" (defScope st__law_asked_right) (He.ga K "_law_asked_right") cdv A outer s H E) (E := E) rfl rfl rfl rfl
  have hp := passes_of (X := cxOf (L2.CX P w) P w K mg base ["_law_item", "_law_count", "_law_kept", "_law_due_here", "_law_told"] "_law_asked_right" (defScope st__law_asked_right) (He.ga K "_law_asked_right") cdv A outer s H E) rfl
  exact s_cons (s_par (i := 2) (j := 3) rfl sc__law_asked_right.nd rfl rfl (by decide) rfl rfl (a_cons (e_callB (id := "repr") (c_repr2 hg hr.units) rfl c.n_repr (by decide +kernel) (a_cons (e_v 0) (a_nil))) (a_cons (e_call G__law_due (hr.mono (by decide)) hg tk rfl c.g__law_due k__law_due B__law_due_2_ (fun ds h => match ds, h with | [_, _], _ => rfl) (a_cons (e_v 0) (a_cons (e_v 1) (a_nil)))) (a_nil))) rfl) (s_cons (s_set (i := 4) sc__law_asked_right.nd rfl (Or.inl rfl) (e_lst (a_cons (e_call G_is_net (hr.mono (by decide)) hg tk rfl c.g_is_net k_is_net B_is_net_2_ (fun ds h => match ds, h with | [_, _], _ => rfl) (a_cons (e_v 0) (a_cons (e_v 1) (a_nil)))) (a_cons (e_callK0 (ks := ["thing", "many"]) G_is_net (hr.mono (by decide)) hg tk rfl c.g_is_net k_is_net B_is_net_0_thing_many (fun ds h => match ds, h with | [_, _], _ => rfl) (k_cons (e_v 0) (k_cons (e_v 1) (k_nil)))) (a_nil))))) (s_cons (s_ret (e_and (e_cmp (o_eq hr.units) (nomark _) (e_callB (id := "repr") (c_repr2 hg hr.units) rfl c.n_repr (by decide +kernel) (a_cons (e_v 4) (a_nil))) (e_callB (id := "repr") (c_repr2 hg hr.units) rfl c.n_repr (by decide +kernel) (a_cons (e_lst (a_cons (e_v 3) (a_cons (e_v 3) (a_nil)))) (a_nil)))) (e_one (e_cmp (o_eq hr.units) (nomark _) (e_callB (id := "repr") (c_repr2 hg hr.units) rfl c.n_repr (by decide +kernel) (a_cons (e_v 0) (a_nil))) (e_v 2))))) (s_nil)))
def Ok__law_right (P : Program) (w : World) (K : PySem.W.Frag) (mg : Str → Option Value) (base : Heap) : Prop := ∃ fd, FnG P w K mg base 64 (He.ga K "_law_right") fd ["_law_pot_here"] (spF K 1 fn__law_right) ∧ PySem.W.keepIn K (.ref (He.ga K "_law_right")) = true ∧ Bd K fd ["_law_pot_here"] 1 [] [0] []
theorem ok__law_right (c : Fx K mg) (h__law_asked_right : Ok__law_asked_right P w K mg base) (h__law_odd : Ok__law_odd P w K mg base) (h__law_take : Ok__law_take P w K mg base) (h__law_otherwise : Ok__law_otherwise fuel__law_otherwise P w K mg base) (h_is_net : Ok_is_net P w K mg base) (h__law_deep : Ok__law_deep P w K mg base) (h__law_net : Ok__law_net fuel__law_net P w K mg base) : Ok__law_right P w K mg base := by
  obtain ⟨fd, F⟩ := c.d__law_right
  obtain ⟨fd__law_asked_right, G__law_asked_right, k__law_asked_right, B__law_asked_right_2_⟩ := h__law_asked_right
  obtain ⟨fd__law_odd, G__law_odd, k__law_odd, B__law_odd_2_⟩ := h__law_odd
  obtain ⟨fd__law_take, G__law_take, k__law_take, B__law_take_2_⟩ := h__law_take
  obtain ⟨fd__law_otherwise, G__law_otherwise, k__law_otherwise, B__law_otherwise_3_⟩ := h__law_otherwise
  obtain ⟨fd_is_net, G_is_net, k_is_net, B_is_net_0_thing_many, B_is_net_2_⟩ := h_is_net
  obtain ⟨fd__law_deep, G__law_deep, k__law_deep, B__law_deep_3_⟩ := h__law_deep
  obtain ⟨fd__law_net, G__law_net, k__law_net, B__law_net_3_⟩ := h__law_net
  refine ⟨fd, fn_ok (N := ["_law_pot_here", "_law_works", "_law_some", "_law_net_here", "_law_turn", "_law_bent", "_law_number_here"]) F sc__law_right (b := b__law_right) (fun cdv A outer s H E hg hr => ?_), F.kp, bd0 F (fun _ _ _ _ _ _ us hl => match us, hl with | [_], _ => rfl)⟩
  have tk := takes_of (X := cxOf (L2.CX P w) P w K mg base ["_law_pot_here", "_law_works", "_law_some", "_law_net_here", "_law_turn", "_law_bent", "_law_number_here"] "_law_right" (defScope st__law_right) (He.ga K "_law_right") cdv A outer s H E) (E := E) rfl rfl rfl rfl
  have hp := passes_of (X := cxOf (L2.CX P w) P w K mg base ["_law_pot_here", "_law_works", "_law_some", "_law_net_here", "_law_turn", "_law_bent", "_law_number_here"] "_law_right" (defScope st__law_right) (He.ga K "_law_right") cdv A outer s H E) rfl
  exact s_cons (s_set (i := 1) sc__law_right.nd rfl (Or.inr rfl) (e_bin o_add (e_int) (e_call G__law_take (hr.mono (by decide)) hg tk rfl c.g__law_take k__law_take B__law_take_2_ (fun ds h => match ds, h with | [_, _], _ => rfl) (a_cons (e_v 0) (a_cons (e_int) (a_nil)))))) (s_cons (s_set (i := 2) sc__law_right.nd rfl (Or.inl rfl) (e_lst (a_cons (e_call G__law_net (hr.mono (by decide)) hg tk rfl c.g__law_net k__law_net B__law_net_3_ (fun ds h => match ds, h with | [_, _, _], _ => rfl) (a_cons (e_v 0) (a_cons (e_v 1) (a_cons (e_lst (a_cons (e_call G__law_take (hr.mono (by decide)) hg tk rfl c.g__law_take k__law_take B__law_take_2_ (fun ds h => match ds, h with | [_, _], _ => rfl) (a_cons (e_v 0) (a_cons (e_int) (a_nil)))) (a_nil))) (a_nil))))) (a_nil)))) (s_cons (s_ex (e_meth PySem.F.plainAttrs_list PySem.F.slot_list_extend PySem.F.type_list_extend m_ext ty_lst q_ext (e_v 2) (a_cons (e_lst (a_cons (e_call G__law_deep (hr.mono (by decide)) hg tk rfl c.g__law_deep k__law_deep B__law_deep_3_ (fun ds h => match ds, h with | [_, _, _], _ => rfl) (a_cons (e_v 0) (a_cons (e_v 1) (a_cons (e_int) (a_nil))))) (a_cons (e_call G__law_deep (hr.mono (by decide)) hg tk rfl c.g__law_deep k__law_deep B__law_deep_3_ (fun ds h => match ds, h with | [_, _, _], _ => rfl) (a_cons (e_v 0) (a_cons (e_v 1) (a_cons (e_int) (a_nil))))) (a_nil)))) (a_nil)))) (s_cons (s_ex (e_meth PySem.F.plainAttrs_list PySem.F.slot_list_append PySem.F.type_list_append m_app ty_lst q_app (e_v 2) (a_cons (e_bin o_add (e_tup (a_cons (e_str) (a_nil))) (e_callT (T := "tuple") c_tuple rfl c.n_tuple (by decide +kernel) (a_cons (e_lc (own := [("_law_turn", 4)]) rfl sc__law_right.nd (i_rng rfl c.n_range (e_int)) (blk_by ["_law_pot_here", "_law_works", "_law_some", "_law_net_here", "_law_turn", "_law_bent", "_law_number_here"] (defScope st__law_right) (by decide +kernel)) (fun _ _ _ _ _ => pg_name (i := 4) sc__law_right.nd rfl (Or.inl rfl)) (gp_nm 4) (by decide) (fun _ _ _ _ _ => pts_nil) tt_no (fun _ _ _ _ _ => e_call G__law_deep (hr.mono (by decide)) hg tk_no rfl c.g__law_deep k__law_deep B__law_deep_3_ (fun ds h => match ds, h with | [_, _, _], _ => rfl) (a_cons (e_v 0) (a_cons (e_v 1) (a_cons (e_bin o_add (e_int) (e_bin o_div (e_v 4) (e_int))) (a_nil)))))) (a_nil)))) (a_nil)))) (s_cons (s_if (t_cmp (o_ne hr.units) (nomark _) (e_lc (own := [("_law_net_here", 3)]) rfl sc__law_right.nd (i_seq (e_sl (e_v 2) (p_none) (p_some (e_int)))) (blk_by ["_law_pot_here", "_law_works", "_law_some", "_law_net_here", "_law_turn", "_law_bent", "_law_number_here"] (defScope st__law_right) (by decide +kernel)) (fun _ _ _ _ _ => pg_name (i := 3) sc__law_right.nd rfl (Or.inl rfl)) (gp_nm 3) (by decide) (fun _ _ _ _ _ => pts_nil) tt_no (fun _ _ _ _ _ => e_call G_is_net (hr.mono (by decide)) hg tk_no rfl c.g_is_net k_is_net B_is_net_2_ (fun ds h => match ds, h with | [_, _], _ => rfl) (a_cons (e_v 3) (a_cons (e_v 1) (a_nil))))) (e_lst (a_cons (e_bl) (a_cons (e_bl) (a_cons (e_bl) (a_nil)))))) (s_cons (s_ret (e_bl)) (s_nil)) (s_nil)) (s_cons (s_for hp rfl (i_seq (e_v 2)) (pg_name (i := 3) sc__law_right.nd rfl (Or.inr rfl)) (gp_nm 3) (s_cons (s_if (t_not (t_of (e_callB (id := "all") (c_all rfl) rfl c.n_all (by decide +kernel) (a_cons (e_lc (own := [("_law_number_here", 6)]) rfl sc__law_right.nd (i_rng rfl c.n_range (e_int)) (blk_by ["_law_pot_here", "_law_works", "_law_some", "_law_net_here", "_law_turn", "_law_bent", "_law_number_here"] (defScope st__law_right) (by decide +kernel)) (fun _ _ _ _ _ => pg_name (i := 6) sc__law_right.nd rfl (Or.inl rfl)) (gp_nm 6) (by decide) (fun _ _ _ _ _ => pts_nil) tt_no (fun _ _ _ _ _ => e_call G__law_asked_right (hr.mono (by decide)) hg tk_no rfl c.g__law_asked_right k__law_asked_right B__law_asked_right_2_ (fun ds h => match ds, h with | [_, _], _ => rfl) (a_cons (e_v 3) (a_cons (e_v 6) (a_nil))))) (a_nil))))) (s_cons (s_ret (e_bl)) (s_nil)) (s_nil)) (s_cons (s_for hp rfl (i_rng rfl c.n_range (e_int)) (pg_name (i := 4) sc__law_right.nd rfl (Or.inl rfl)) (gp_nm 4) (s_cons (s_set (i := 5) sc__law_right.nd rfl (Or.inl rfl) (e_call G__law_otherwise (hr.mono (by decide)) hg tk rfl c.g__law_otherwise k__law_otherwise B__law_otherwise_3_ (fun ds h => match ds, h with | [_, _, _], _ => rfl) (a_cons (e_v 0) (a_cons (e_v 3) (a_cons (e_v 1) (a_nil)))))) (s_cons (s_if (t_cmp (o_eq hr.units) (nomark _) (e_call G__law_take (hr.mono (by decide)) hg tk rfl c.g__law_take k__law_take B__law_take_2_ (fun ds h => match ds, h with | [_, _], _ => rfl) (a_cons (e_v 0) (a_cons (e_int) (a_nil)))) (e_int)) (s_cons (s_set (i := 5) sc__law_right.nd rfl (Or.inl rfl) (e_call G__law_otherwise (hr.mono (by decide)) hg tk rfl c.g__law_otherwise k__law_otherwise B__law_otherwise_3_ (fun ds h => match ds, h with | [_, _, _], _ => rfl) (a_cons (e_v 0) (a_cons (e_v 5) (a_cons (e_v 1) (a_nil)))))) (s_nil)) (s_nil)) (s_cons (s_if (t_not (t_of (e_call G__law_asked_right (hr.mono (by decide)) hg tk rfl c.g__law_asked_right k__law_asked_right B__law_asked_right_2_ (fun ds h => match ds, h with | [_, _], _ => rfl) (a_cons (e_v 5) (a_cons (e_v 1) (a_nil)))))) (s_cons (s_ret (e_bl)) (s_nil)) (s_nil)) (s_nil))))) (s_nil)))) (s_cons (s_ret (e_and (e_cmp (o_eq hr.units) (nomark _) (e_konI rfl c.k_MOST_JOINS) (e_int)) (e_one (e_callB (id := "all") (c_all rfl) rfl c.n_all (by decide +kernel) (a_cons (e_lc (own := [("_law_turn", 4)]) rfl sc__law_right.nd (i_rng rfl c.n_range (e_int)) (blk_by ["_law_pot_here", "_law_works", "_law_some", "_law_net_here", "_law_turn", "_law_bent", "_law_number_here"] (defScope st__law_right) (by decide +kernel)) (fun _ _ _ _ _ => pg_name (i := 4) sc__law_right.nd rfl (Or.inl rfl)) (gp_nm 4) (by decide) (fun _ _ _ _ _ => pts_nil) tt_no (fun _ _ _ _ _ => e_call G__law_asked_right (hr.mono (by decide)) hg tk_no rfl c.g__law_asked_right k__law_asked_right B__law_asked_right_2_ (fun ds h => match ds, h with | [_, _], _ => rfl) (a_cons (e_call G__law_odd (hr.mono (by decide)) hg tk_no rfl c.g__law_odd k__law_odd B__law_odd_2_ (fun ds h => match ds, h with | [_, _], _ => rfl) (a_cons (e_v 0) (a_cons (e_v 1) (a_nil)))) (a_cons (e_v 1) (a_nil))))) (a_nil)))))) (s_nil)))))))
def Ok_law (P : Program) (w : World) (K : PySem.W.Frag) (mg : Str → Option Value) (base : Heap) : Prop := ∃ fd, FnG P w K mg base 65 (He.ga K "law") fd ["_law_script"] (spF K 1 fn_law) ∧ PySem.W.keepIn K (.ref (He.ga K "law")) = true ∧ FunD K "law" "law" (defArgs st_law) (defBody st_law) (defScope st_law) [] [] (He.ga K "law") fd
theorem ok_law (c : Fx K mg) (h__law_right : Ok__law_right P w K mg base) (h__law_pot : Ok__law_pot P w K mg base) : Ok_law P w K mg base := by
  obtain ⟨fd, F⟩ := c.d_law
  obtain ⟨fd__law_right, G__law_right, k__law_right, B__law_right_1_⟩ := h__law_right
  obtain ⟨fd__law_pot, G__law_pot, k__law_pot, B__law_pot_2_⟩ := h__law_pot
  refine ⟨fd, fn_ok (N := ["_law_script", "_law_k"]) F sc_law (b := b_law) (fun cdv A outer s H E hg hr => ?_), F.kp, F⟩
  have tk := takes_of (X := cxOf (L2.CX P w) P w K mg base ["_law_script", "_law_k"] "law" (defScope st_law) (He.ga K "law") cdv A outer s H E) (E := E) rfl rfl rfl rfl
  have hp := passes_of (X := cxOf (L2.CX P w) P w K mg base ["_law_script", "_law_k"] "law" (defScope st_law) (He.ga K "law") cdv A outer s H E) rfl
  exact s_cons (s_ret (e_callB (id := "all") (c_all rfl) rfl c.n_all (by decide +kernel) (a_cons (e_lc (own := [("_law_k", 1)]) rfl sc_law.nd (i_rng rfl c.n_range (e_callB (id := "max") (c_max2 rfl) rfl c.n_max (by decide +kernel) (a_cons (e_int) (a_cons (e_callB (id := "min") (c_min2 rfl) rfl c.n_min (by decide +kernel) (a_cons (e_int) (a_cons (e_callB (id := "len") c_len rfl c.n_len (by decide +kernel) (a_cons (e_v 0) (a_nil))) (a_nil)))) (a_nil))))) (blk_by ["_law_script", "_law_k"] (defScope st_law) (by decide +kernel)) (fun _ _ _ _ _ => pg_name (i := 1) sc_law.nd rfl (Or.inl rfl)) (gp_nm 1) (by decide) (fun _ _ _ _ _ => pts_nil) tt_no (fun _ _ _ _ _ => e_call G__law_right (hr.mono (by decide)) hg tk_no rfl c.g__law_right k__law_right B__law_right_1_ (fun ds h => match ds, h with | [_], _ => rfl) (a_cons (e_call G__law_pot (hr.mono (by decide)) hg tk_no rfl c.g__law_pot k__law_pot B__law_pot_2_ (fun ds h => match ds, h with | [_, _], _ => rfl) (a_cons (e_v 0) (a_cons (e_v 1) (a_nil)))) (a_nil)))) (a_nil)))) (s_nil)
end
end P
namespace Z
open PySem PySem.Spec PyProof.Rows L2
/-! ### what the head tells -/
theorem mem_lk {α β : Type} [BEq α] [LawfulBEq α] {a : α} {b : β} {l : List (α × β)} (h : l.lookup a = some b) : (a, b) ∈ l := by
  induction l with
  | nil => cases h
  | cons p r ih =>
    obtain ⟨c, d⟩ := p
    rw [List.lookup_cons] at h
    by_cases q : (a == c) = true
    · rw [q] at h
      rw [beq_iff_eq.mp q]
      cases h
      exact List.mem_cons_self
    · rw [Bool.eq_false_iff.mpr q] at h
      exact List.mem_cons_of_mem _ (ih h)
def clsB (K : PySem.W.Frag) (tab : Tab) : Bool := tabB K tab && (dscB K && tab.all fun p => match p.1.1 with
  | .own c => excB K c
  | _ => true)
theorem clsB_ok {K : PySem.W.Frag} {tab : Tab} (h : clsB K tab = true) : ClsOk K tab := by
  obtain ⟨h1, h2⟩ := He.ba h
  obtain ⟨h3, h4⟩ := He.ba h2
  refine ⟨h1, h3, fun c k b e => ?_⟩
  exact excB_ok (List.all_eq_true.mp h4 ((.own c, k), b) (mem_lk e))
def fldB (K : PySem.W.Frag) (f : Str) (c : Str) : Bool := excB K c && decide (PySem.W.findIn K (.ref (He.ga K c)) f = some none)
theorem fldB_ok {K : PySem.W.Frag} {f : Str} {cs : List Str} (h : cs.all (fldB K f) = true) : ∀ c ∈ cs, ExcF K c ∧ PySem.W.findIn K (.ref (He.ga K c)) f = some none := fun c hc =>
  have q := He.ba (List.all_eq_true.mp h c hc)
  ⟨excB_ok q.1, of_decide_eq_true q.2⟩
def modB (K : PySem.W.Frag) (x : Str) (id : String) : Bool := decide (PySem.W.nsIn K mainGlobals x = some (some (.builtin id)))
theorem modB_ok {K : PySem.W.Frag} {h : Heap} {mg : Str → Option Value} (X : K.In h) (G : h.Ns mainGlobals mg) {x : Str} {id : String} (c : modB K x id = true) : mg x = some (.builtin id) := PySem.W.mg_of X G (of_decide_eq_true c)
/-- the look: the named part of the heap, one Bool more -/
def part (n : Nat) (g : Addr → Option Obj) : PySem.W.Frag := He.frG g (He.asD g n)
def look (n : Nat) (fa : List He.Fa) (fn : List He.DefD) (ex : PySem.W.Frag → Bool) (g : Addr → Option Obj) : Bool × He.AlD := (ex (part n g), He.obsD fa fn (part n g))
structure Told (fa : List He.Fa) (fn : List He.DefD) (ex : PySem.W.Frag → Bool) (K : PySem.W.Frag) : Prop where
  d : He.SaysD fa fn K
  x : ex K = true
def hookG (n : Nat) (fa : List He.Fa) (fn : List He.DefD) (ex : PySem.W.Frag → Bool) : PySem.W.Hook where
  α := Bool × He.AlD
  obs := fun s => look n fa fn ex s.heap.get?
  val := fun _ => (true, He.valD fn)
  says := fun _ h => ∃ K : PySem.W.Frag, K.In h ∧ Told fa fn ex K
  of := fun _ s e => ⟨part n s.heap.get?, He.frG_in, (Prod.mk.inj e).2, (Prod.mk.inj e).1⟩
  keeps := fun _ _ _ ⟨K, hK, c⟩ k => ⟨K, hK.keeps k, c⟩
theorem look_eq {n : Nat} {fa : List He.Fa} {fn : List He.DefD} {ex : PySem.W.Frag → Bool} (s : PySem.W.SharedT) : look n fa fn ex (HandSHeadRun.getT s) = (hookG n fa fn ex).obs s.abs :=
  congrArg (look n fa fn ex) (funext (HandSHeadRun.getT_eq s))
theorem fund_one {K : PySem.W.Frag} {x qual : Str} {params : Arguments} {body : List Stmt} {scope : Scope} {dvs : List V} {kws : List (Str × V)} {f : Addr} {fd fd' : FuncData} (F : FunD K x qual params body scope dvs kws f fd) (F' : FunD K x qual params body scope dvs kws f fd') : fd = fd' := by
  obtain ⟨_, _, _, _, _, _, _, _, _, _, e, lk, _⟩ := F.ex
  obtain ⟨_, _, _, _, _, _, _, _, _, _, e', lk', _⟩ := F'.ex
  rw [lk] at lk'
  clear e e'
  cases lk'
  rfl
/-! ### the law's call, from the def's function -/
/-- the script, and nothing else, may be watched -/
structure Solo (K : PySem.W.Frag) (H : Hp) (a : Addr) : Prop where
  one : ∀ b, H b ≠ none → b = a ∧ K.lookup a = none ∧ ∃ o xs, H b = some (.frz o (.lst xs))
theorem Solo.off {K : PySem.W.Frag} {H : Hp} {a b : Addr} (S : Solo K H a) {h : Heap} {o : Obj} {vs : List Value} (ha : h.get? a = some { cls := .type "list", data := .seq vs.toArray }) (e : h.get? b = some o) (hd : ∃ es ep, o.data = .dict es ep) : H b = none := by
  by_cases q : H b = none
  · exact q
  · obtain ⟨rfl, _⟩ := S.one b q
    rw [ha] at e
    obtain ⟨es, ep, hd⟩ := hd
    cases e
    cases hd
theorem call_core {P : Program} {w : World} {K : PySem.W.Frag} {mg mb : Str → Option Value} {k : Nat} {fa a : Addr} {fd : FuncData} {x : Str} {s₁ : Shared} {vs : List Value} {sp : Sp} {H : Hp}
    (KX : K.In s₁.heap) (hns : s₁.heap.Ns mainGlobals mg) (hb : s₁.heap.Ns builtinsNs mb) (hbb : ∀ x : Str, x ≠ "__name__" → mb x = bootBuiltins x) (hlim : s₁.heap.NoLimit) (hg : s₁.gens = #[])
    (ha : s₁.heap.get? a = some { cls := .type "list", data := .seq vs.toArray }) (hr : Room k callerA)
    (F : ∀ base : Heap, K.In base → base.Ns mainGlobals mg → FnG P w K mg base k fa fd [x] sp) (hbind : ∀ (s : Shared) (u : Value), BindsTo s fd ⟨[u], []⟩ [(x, u)])
    (S : Solo K H a) (hok : HOk P w H s₁.heap) (hsp : sp [.ref a] H (fun v _ => v = .bl true) fun _ _ _ => False) :
    codeAny (model P w) callerA (.call (.ref fa) ⟨[.ref a], []⟩) (fun r s' => r = .ok (.ret (.bool true)) ∧ OldK s₁.heap s'.heap ∧ s'.os = s₁.os ∧ AllBare s'.gens) s₁ := by
  have kin : K.In (hidT s₁.heap H) := fun b o e => hidT_get (KX b o e) (Classical.byContradiction fun z => by
    obtain ⟨rfl, n, _⟩ := S.one b z
    rw [n] at e
    cases e)
  have dicts : ∀ {b : Addr} {m : Str → Option Value}, s₁.heap.Ns b m → (hidT s₁.heap H).Ns b m := fun ⟨o, es, ep, e, d, r⟩ => ⟨o, es, ep, hidT_get e (S.off ha e ⟨es, ep, d⟩), d, r⟩
  obtain ⟨mc, l1, l2⟩ := hlim
  have env : Env0 P w K mg (hidT s₁.heap H) callerA [] s₁ H :=
    { frames := rfl, mod := ⟨kin, dicts hns, ⟨mb, dicts hb, hbb⟩, ⟨mc, dicts l1, l2⟩⟩, bs := fun b o e => of_hidT e, bsz := Nat.le_of_eq (hidT_size _ _), funs := trivial, frf := fun b hb => (by cases hb), hok := hok, bare := .of_eq hg }
  refine codeAny_mono ((F _ kin (dicts hns)).run callerA [] s₁ H ⟨[.ref a], []⟩ [.ref a] [.ref a] _ _ rfl hr env (hbind s₁ (.ref a)) (.cons rfl .nil) hsp) ?_
  intro r s' h
  match r, h with
  | .error e, h =>
    obtain ⟨_, _, _, _, _, _, _, _, _, _, _, _, bad⟩ := h
    exact bad.elim
  | .ok .next, h => exact False.elim h
  | .ok .brk, h => exact False.elim h
  | .ok .cont, h => exact False.elim h
  | .ok (.ret u), ⟨v, H', os, bare, un, hok', r', (q : v = .bl true)⟩ =>
    subst q
    have eu : u = Value.bool true := r'
    subst eu
    refine ⟨rfl, OldK.of_keep (fun b o e => ?_), os, bare⟩
    by_cases z : H b = none
    · exact un.keep b o e z (fun q => by cases q) (by simp)
    · obtain ⟨rfl, _, ob, xs, eq⟩ := S.one b z
      have f1 := (hok b _ eq).1
      have f2 := (hok' b _ (un.frzs b ob _ eq)).1
      rw [f1] at e
      cases e
      exact f2
theorem walk_ofG {l : PySem.W.OpenLaw} {n k : Nat} {q : Program} {loose : List Str} {XP : (Str → Option Value) → Heap → Prop} {YP : World → Heap → Prop} {d : DefRec} {x : Str} {fn : List D → Sto → Res}
    (hn : l.most = some n) (hn2 : n ≤ sizeLine) (hdf : d.params.defaults = []) (hr : Room k callerA)
    (F : ∀ (w : World) (mg : Str → Option Value) (fa : Addr) (h : Heap), YP w h → h.Ns mainGlobals mg → mg d.name = some (.ref fa) →
      ∃ (K : PySem.W.Frag) (fd : FuncData), K.In h ∧ (∀ (s : Shared) (u : Value), BindsTo s fd ⟨[u], []⟩ [(x, u)]) ∧ ∀ base : Heap, K.In base → base.Ns mainGlobals mg → FnG l.prog w K mg base k fa fd [x] (spF K 1 fn))
    (math : ∀ ns : List Int, ns.length ≤ n → ∃ S, fn [.fl (ns.map .int)] [] = .ok (.bl true) S) :
    PySem.W.WalkO q loose XP YP l.row.toRowW d [] (fun f vs => PySem.call f vs) := by
  refine Att.attach_call hn hdf fun w s₀ s₁ mg mb fa o pm cd doc a vs ns G Y ho hd hcd hmg hobj hints hlen hg => ?_
  obtain ⟨K, fd, KX, hb, hF⟩ := F w mg fa _ Y G.T.g hmg
  obtain ⟨S, hS⟩ := math ns hlen
  have size := Nat.le_trans hlen hn2
  have vals := vals_ints hints
  have data : ∀ {H : Hp}, RVs K H [] (ns.map .int) (ns.map V.int) := fun {H} => by
    clear hS hlen hints vals size
    induction ns with
    | nil => exact .nil
    | cons i t ih => exact .cons (.int i) ih
  have told : ∀ H : Hp, SqF K H a (ns.map V.int) → spF K 1 fn [.ref a] H (fun v _ => v = .bl true) fun _ _ _ => False := fun H hq => by
    refine ⟨[], [], [.fl (ns.map .int)], rfl, ⟨rfl, fun i j a h => (by cases h), fun i c h => (by cases h)⟩, .cons (.fl hq data) .nil, ?_⟩
    rw [hS]
    intro H' m' v _ _ r
    cases r
    rfl
  cases hk : K.lookup a with
  | some o1 =>
    have e := KX a o1 hk
    rw [hobj] at e
    cases e
    exact call_core KX G.T.g G.T.b G.T.builtins G.T.nolimit hg hobj hr hF hb (H := fun _ => none) ⟨fun b z => absurd rfl z⟩ (fun b u z => nomatch (show (none : Option HO) = some u from z))
      (told _ (.inr (.inr ⟨_, vs.toArray, _, hk, rfl, rfl, rfl, by rw [List.size_toArray, hints.length]; exact size, by simpa using vals⟩)))
  | none =>
    let c : HO := .frz { cls := .type "list", data := .seq vs.toArray } (.lst (ns.map V.int))
    refine call_core KX G.T.g G.T.b G.T.builtins G.T.nolimit hg hobj hr hF hb (H := fun b => if b = a then some c else none) ⟨fun b z => ?_⟩ (fun b u z => ?_) (told _ (.inl ⟨_, if_pos rfl⟩))
    · by_cases hba : b = a
      · exact ⟨hba, hk, _, _, if_pos hba⟩
      · exact absurd (if_neg hba) z
    · by_cases hba : b = a
      · subst hba
        have z2 := (if_pos rfl).symm.trans z
        cases z2
        exact ⟨hobj, by rw [List.length_map]; exact size, vs, _, vals, hobj⟩
      · have z2 := (if_neg hba).symm.trans z
        cases z2
end Z
namespace P
open PySem PySem.Spec PyProof.Rows L2 Z
def dd_is_whole : He.DefD := ⟨("is_whole", none), "is_whole", "is_whole", defArgs st_is_whole, defBody st_is_whole, defScope st_is_whole, [], []⟩
def dd_is_join : He.DefD := ⟨("is_join", none), "is_join", "is_join", defArgs st_is_join, defBody st_is_join, defScope st_is_join, [], []⟩
def dd_is_begun : He.DefD := ⟨("is_begun", none), "is_begun", "is_begun", defArgs st_is_begun, defBody st_is_begun, defScope st_is_begun, [], []⟩
def dd_parts_of : He.DefD := ⟨("parts_of", none), "parts_of", "parts_of", defArgs st_parts_of, defBody st_parts_of, defScope st_parts_of, [], []⟩
def dd_is_net : He.DefD := ⟨("is_net", none), "is_net", "is_net", defArgs st_is_net, defBody st_is_net, defScope st_is_net, [], []⟩
def dd__law_pot : He.DefD := ⟨("_law_pot", none), "_law_pot", "_law_pot", defArgs st__law_pot, defBody st__law_pot, defScope st__law_pot, [], []⟩
def dd__law_take : He.DefD := ⟨("_law_take", none), "_law_take", "_law_take", defArgs st__law_take, defBody st__law_take, defScope st__law_take, [], []⟩
def dd__law_of : He.DefD := ⟨("_law_of", none), "_law_of", "_law_of", defArgs st__law_of, defBody st__law_of, defScope st__law_of, [], []⟩
def dd__law_number : He.DefD := ⟨("_law_number", none), "_law_number", "_law_number", defArgs st__law_number, defBody st__law_number, defScope st__law_number, [], []⟩
def dd__law_net : He.DefD := ⟨("_law_net", none), "_law_net", "_law_net", defArgs st__law_net, defBody st__law_net, defScope st__law_net, [], []⟩
def dd__law_joins : He.DefD := ⟨("_law_joins", none), "_law_joins", "_law_joins", defArgs st__law_joins, defBody st__law_joins, defScope st__law_joins, [], []⟩
def dd__law_due : He.DefD := ⟨("_law_due", none), "_law_due", "_law_due", defArgs st__law_due, defBody st__law_due, defScope st__law_due, [], []⟩
def dd__law_odd : He.DefD := ⟨("_law_odd", none), "_law_odd", "_law_odd", defArgs st__law_odd, defBody st__law_odd, defScope st__law_odd, [], []⟩
def dd__law_otherwise : He.DefD := ⟨("_law_otherwise", none), "_law_otherwise", "_law_otherwise", defArgs st__law_otherwise, defBody st__law_otherwise, defScope st__law_otherwise, [], []⟩
def dd__law_deep : He.DefD := ⟨("_law_deep", none), "_law_deep", "_law_deep", defArgs st__law_deep, defBody st__law_deep, defScope st__law_deep, [], []⟩
def dd__law_asked_right : He.DefD := ⟨("_law_asked_right", none), "_law_asked_right", "_law_asked_right", defArgs st__law_asked_right, defBody st__law_asked_right, defScope st__law_asked_right, [], []⟩
def dd__law_right : He.DefD := ⟨("_law_right", none), "_law_right", "_law_right", defArgs st__law_right, defBody st__law_right, defScope st__law_right, [], []⟩
def dd_law : He.DefD := ⟨("law", none), "law", "law", defArgs st_law, defBody st_law, defScope st_law, [], []⟩
def fnl : List He.DefD := [dd_is_whole, dd_is_join, dd_is_begun, dd_parts_of, dd_is_net, dd__law_pot, dd__law_take, dd__law_of, dd__law_number, dd__law_net, dd__law_joins, dd__law_due, dd__law_odd, dd__law_otherwise, dd__law_deep, dd__law_asked_right, dd__law_right, dd_law]
def fal : List He.Fa := [.glo "HOURED", .glo "MEETINGS", .glo "_law_asked_right", .glo "_law_deep", .glo "_law_due", .glo "_law_joins", .glo "_law_net", .glo "_law_number", .glo "_law_odd", .glo "_law_of", .glo "_law_otherwise", .glo "_law_pot", .glo "_law_right", .glo "_law_take", .glo "is_begun", .glo "is_join", .glo "is_net", .glo "is_whole", .glo "parts_of", .glo "law", .free "abs", .free "all", .free "bool", .free "int", .free "isinstance", .free "len", .free "list", .free "max", .free "min", .free "range", .free "repr", .free "str", .free "sum", .free "tuple", .int "MOST_JOINS" 12]
def exl (K : PySem.W.Frag) : Bool := clsB K itab && (He.tupB K "HOURED" [.str "not_before", .str "given_up"] && (He.tupB K "MEETINGS" [.str "after", .str "last", .str "first"]))
theorem fx_of {K : PySem.W.Frag} {h : Heap} {mg : Str → Option Value} (X : K.In h) (G : h.Ns mainGlobals mg) (T : Told fal fnl exl K) : Fx K mg := by
  obtain ⟨e_cls, r0⟩ := He.ba T.x
  obtain ⟨e_k_HOURED, r1⟩ := He.ba r0
  have e_k_MEETINGS := r1
  exact
    { g_HOURED := He.glo_ok X G (T.d.fact 0 (f := .glo "HOURED") rfl)
      g_MEETINGS := He.glo_ok X G (T.d.fact 1 (f := .glo "MEETINGS") rfl)
      g__law_asked_right := He.glo_ok X G (T.d.fact 2 (f := .glo "_law_asked_right") rfl)
      g__law_deep := He.glo_ok X G (T.d.fact 3 (f := .glo "_law_deep") rfl)
      g__law_due := He.glo_ok X G (T.d.fact 4 (f := .glo "_law_due") rfl)
      g__law_joins := He.glo_ok X G (T.d.fact 5 (f := .glo "_law_joins") rfl)
      g__law_net := He.glo_ok X G (T.d.fact 6 (f := .glo "_law_net") rfl)
      g__law_number := He.glo_ok X G (T.d.fact 7 (f := .glo "_law_number") rfl)
      g__law_odd := He.glo_ok X G (T.d.fact 8 (f := .glo "_law_odd") rfl)
      g__law_of := He.glo_ok X G (T.d.fact 9 (f := .glo "_law_of") rfl)
      g__law_otherwise := He.glo_ok X G (T.d.fact 10 (f := .glo "_law_otherwise") rfl)
      g__law_pot := He.glo_ok X G (T.d.fact 11 (f := .glo "_law_pot") rfl)
      g__law_right := He.glo_ok X G (T.d.fact 12 (f := .glo "_law_right") rfl)
      g__law_take := He.glo_ok X G (T.d.fact 13 (f := .glo "_law_take") rfl)
      g_is_begun := He.glo_ok X G (T.d.fact 14 (f := .glo "is_begun") rfl)
      g_is_join := He.glo_ok X G (T.d.fact 15 (f := .glo "is_join") rfl)
      g_is_net := He.glo_ok X G (T.d.fact 16 (f := .glo "is_net") rfl)
      g_is_whole := He.glo_ok X G (T.d.fact 17 (f := .glo "is_whole") rfl)
      g_parts_of := He.glo_ok X G (T.d.fact 18 (f := .glo "parts_of") rfl)
      n_abs := He.free_ok X G (T.d.fact 20 (f := .free "abs") rfl)
      n_all := He.free_ok X G (T.d.fact 21 (f := .free "all") rfl)
      n_bool := He.free_ok X G (T.d.fact 22 (f := .free "bool") rfl)
      n_int := He.free_ok X G (T.d.fact 23 (f := .free "int") rfl)
      n_isinstance := He.free_ok X G (T.d.fact 24 (f := .free "isinstance") rfl)
      n_len := He.free_ok X G (T.d.fact 25 (f := .free "len") rfl)
      n_list := He.free_ok X G (T.d.fact 26 (f := .free "list") rfl)
      n_max := He.free_ok X G (T.d.fact 27 (f := .free "max") rfl)
      n_min := He.free_ok X G (T.d.fact 28 (f := .free "min") rfl)
      n_range := He.free_ok X G (T.d.fact 29 (f := .free "range") rfl)
      n_repr := He.free_ok X G (T.d.fact 30 (f := .free "repr") rfl)
      n_str := He.free_ok X G (T.d.fact 31 (f := .free "str") rfl)
      n_sum := He.free_ok X G (T.d.fact 32 (f := .free "sum") rfl)
      n_tuple := He.free_ok X G (T.d.fact 33 (f := .free "tuple") rfl)
      k_MOST_JOINS := He.int_ok X G (T.d.fact 34 (f := .int "MOST_JOINS" 12) rfl)
      d_is_whole := T.d.def_ 0 (d := dd_is_whole) rfl
      d_is_join := T.d.def_ 1 (d := dd_is_join) rfl
      d_is_begun := T.d.def_ 2 (d := dd_is_begun) rfl
      d_parts_of := T.d.def_ 3 (d := dd_parts_of) rfl
      d_is_net := T.d.def_ 4 (d := dd_is_net) rfl
      d__law_pot := T.d.def_ 5 (d := dd__law_pot) rfl
      d__law_take := T.d.def_ 6 (d := dd__law_take) rfl
      d__law_of := T.d.def_ 7 (d := dd__law_of) rfl
      d__law_number := T.d.def_ 8 (d := dd__law_number) rfl
      d__law_net := T.d.def_ 9 (d := dd__law_net) rfl
      d__law_joins := T.d.def_ 10 (d := dd__law_joins) rfl
      d__law_due := T.d.def_ 11 (d := dd__law_due) rfl
      d__law_odd := T.d.def_ 12 (d := dd__law_odd) rfl
      d__law_otherwise := T.d.def_ 13 (d := dd__law_otherwise) rfl
      d__law_deep := T.d.def_ 14 (d := dd__law_deep) rfl
      d__law_asked_right := T.d.def_ 15 (d := dd__law_asked_right) rfl
      d__law_right := T.d.def_ 16 (d := dd__law_right) rfl
      d_law := T.d.def_ 17 (d := dd_law) rfl
      cls := clsB_ok e_cls
      k_HOURED := e_k_HOURED
      k_MEETINGS := e_k_MEETINGS }
abbrev hk : PySem.W.Hook := hookG 5 fal fnl exl
def ob (s : PySem.W.SharedT) : Bool × He.AlD := look 5 fal fnl exl (HandSHeadRun.getT s)
theorem ob_eq (s : PySem.W.SharedT) : ob s = hk.obs s.abs := look_eq s
def loose : List Str := (["is_whole", "MOST_JOINS", "MEETINGS", "HOURED", "is_join", "is_begun", "is_net", "parts_of", "_law_pot", "_law_take", "_law_of", "_law_number", "_law_net", "_law_joins", "_law_due", "_law_odd", "_law_otherwise", "_law_deep", "_law_asked_right", "_law_right"] : List Str)
abbrev Rw : PySem.W.OpenRow := PySem.W.OpenLaw.row PySem.Challenge.rw_lateshares_k05_nets_of_anything
abbrev vw : Program := PySem.W.view Rw.prog [23]
theorem run (w : World) : HandSHeadRun.RunEq Rw vw hk ob 6000 loose w := by
  intro os
  kernel_rfl
theorem pick_law {P : Program} {w : World} {K : PySem.W.Frag} {mg : Str → Option Value} {base : Heap} (c : Fx K mg) : Ok_law P w K mg base :=
  have o_is_whole : Ok_is_whole P w K mg base := ok_is_whole c
  have o_is_join : Ok_is_join P w K mg base := ok_is_join c
  have o_is_begun : Ok_is_begun P w K mg base := ok_is_begun c o_is_whole
  have o_parts_of : Ok_parts_of P w K mg base := ok_parts_of c
  have o_is_net : Ok_is_net P w K mg base := ok_is_net c o_is_join o_parts_of o_is_begun
  have o__law_pot : Ok__law_pot P w K mg base := ok__law_pot c
  have o__law_take : Ok__law_take P w K mg base := ok__law_take c
  have o__law_of : Ok__law_of P w K mg base := ok__law_of c o__law_take
  have o__law_number : Ok__law_number P w K mg base := ok__law_number c o__law_of o__law_take
  have o__law_net : Ok__law_net fuel__law_net P w K mg base := ok__law_net c o__law_of o__law_number o__law_take fuel__law_net
  have o__law_joins : Ok__law_joins fuel__law_joins P w K mg base := ok__law_joins c fuel__law_joins
  have o__law_due : Ok__law_due P w K mg base := ok__law_due c o__law_joins
  have o__law_odd : Ok__law_odd P w K mg base := ok__law_odd c o__law_of
  have o__law_otherwise : Ok__law_otherwise fuel__law_otherwise P w K mg base := ok__law_otherwise c o__law_take o__law_odd fuel__law_otherwise
  have o__law_deep : Ok__law_deep P w K mg base := ok__law_deep c o__law_of
  have o__law_asked_right : Ok__law_asked_right P w K mg base := ok__law_asked_right c o_is_net o__law_due
  have o__law_right : Ok__law_right P w K mg base := ok__law_right c o__law_asked_right o__law_odd o__law_take o__law_otherwise o_is_net o__law_deep o__law_net
  ok_law c o__law_right o__law_pot
theorem law_facts {P : Program} {w : World} {K : PySem.W.Frag} {h : Heap} {mg : Str → Option Value} {f : Addr} (X : K.In h) (G : h.Ns mainGlobals mg) (hfa : mg "law" = some (.ref f)) (T : Told fal fnl exl K) :
    ∃ fd : FuncData, (∀ (s : Shared) (v : Value), BindsTo s fd ⟨[v], []⟩ [("_law_script", v)]) ∧ ∀ base : Heap, FnG P w K mg base 65 f fd ["_law_script"] (spF K 1 fn_law) := by
  have c := fx_of X G T
  have e := hfa.symm.trans (He.glo_ok X G (T.d.fact 19 (f := .glo "law") rfl))
  cases e
  obtain ⟨fd0, F⟩ := c.d_law
  refine ⟨fd0, fun s v => L2.FunD.bindsA (ps := ["_law_script"]) F (fun _ _ _ _ _ _ us hl => match us, hl with | [_], _ => rfl) s [v] rfl, fun base => ?_⟩
  obtain ⟨fd1, G1, _, F1⟩ := pick_law (P := P) (w := w) (base := base) c
  rw [fund_one F F1]
  exact G1
end P
namespace Z
open PySem PySem.Spec PyProof.Rows L2
/-! ## values without a store: what nobody writes is a value; what is written stands in one slot alone -/
inductive U where
  | non | bl (b : Bool) | int (i : Int) | str (x : Str)
  | tup (xs : List U) | lst (xs : List U) | fl (xs : List U) | emp | exc (c : Str) (fs : List (Str × U))
abbrev UV := List (Option U)
abbrev WP := Nat → Prop
section
variable (W : WP) (S : Sto)
mutual
inductive Rp : D → U → Prop where
  | non : Rp .non .non
  | bl (b : Bool) : Rp (.bl b) (.bl b)
  | int (i : Int) : Rp (.int i) (.int i)
  | str (x : Str) : Rp (.str x) (.str x)
  | tup {ds : List D} {us : List U} : Rps ds us → Rp (.tup ds) (.tup us)
  | fl {ds : List D} {us : List U} : Rps ds us → Rp (.fl ds) (.fl us)
  | emp : Rp .emp .emp
  | lst {n : Nat} {ds : List D} {us : List U} : ¬ W n → S[n]? = some (.lst ds) → Rps ds us → Rp (.ref n) (.lst us)
  | exc {n : Nat} {c : Str} {fs : List (Str × D)} {gs : List (Str × U)} : ¬ W n → S[n]? = some (.exc c fs) → Rpf fs gs → Rp (.ref n) (.exc c gs)
inductive Rps : List D → List U → Prop where
  | nil : Rps [] []
  | cons {d : D} {u : U} {ds : List D} {us : List U} : Rp d u → Rps ds us → Rps (d :: ds) (u :: us)
inductive Rpf : List (Str × D) → List (Str × U) → Prop where
  | nil : Rpf [] []
  | cons {k : Str} {d : D} {u : U} {ds : List (Str × D)} {us : List (Str × U)} : Rp d u → Rpf ds us → Rpf ((k, d) :: ds) ((k, u) :: us)
end
end
def Up (W : WP) (S : Sto) (W' : WP) (S' : Sto) : Prop := ∀ n c, ¬ W n → S[n]? = some c → ¬ W' n ∧ S'[n]? = some c
theorem Up.refl {W S} : Up W S W S := fun _ _ h e => ⟨h, e⟩
theorem Up.trans {W S W1 S1 W2 S2} (a : Up W S W1 S1) (b : Up W1 S1 W2 S2) : Up W S W2 S2 := fun n c h e => let ⟨h1, e1⟩ := a n c h e; b n c h1 e1
theorem Up.anti {W W' : WP} {S} (h : ∀ n, W' n → W n) : Up W S W' S := fun n _ h1 e => ⟨fun z => h1 (h n z), e⟩
theorem lt_at {S : Sto} {n : Nat} {c : Cell} (h : S[n]? = some c) : n < S.length := (List.getElem?_eq_some_iff.mp h).1
theorem Up.app {W : WP} {S T : Sto} : Up W S W (S ++ T) := fun n c h e => ⟨h, by rw [List.getElem?_append_left (lt_at e)]; exact e⟩
mutual
theorem Rp.up {W S W' S'} (l : Up W S W' S') : ∀ {d : D} {u : U}, Rp W S d u → Rp W' S' d u
  | _, _, .non => .non
  | _, _, .bl b => .bl b
  | _, _, .int b => .int b
  | _, _, .str b => .str b
  | _, _, .tup h => .tup (Rps.up l h)
  | _, _, .fl h => .fl (Rps.up l h)
  | _, _, .emp => .emp
  | _, _, .lst h e r => .lst (l _ _ h e).1 (l _ _ h e).2 (Rps.up l r)
  | _, _, .exc h e r => .exc (l _ _ h e).1 (l _ _ h e).2 (Rpf.up l r)
theorem Rps.up {W S W' S'} (l : Up W S W' S') : ∀ {d : List D} {u : List U}, Rps W S d u → Rps W' S' d u
  | _, _, .nil => .nil
  | _, _, .cons h t => .cons (Rp.up l h) (Rps.up l t)
theorem Rpf.up {W S W' S'} (l : Up W S W' S') : ∀ {d : List (Str × D)} {u : List (Str × U)}, Rpf W S d u → Rpf W' S' d u
  | _, _, .nil => .nil
  | _, _, .cons h t => .cons (Rp.up l h) (Rpf.up l t)
end
theorem Rps.len {W S} : ∀ {ds : List D} {us : List U}, Rps W S ds us → ds.length = us.length
  | _, _, .nil => rfl
  | _, _, .cons _ t => by simp [Rps.len t]
theorem Rps.app {W S} : ∀ {ds es : List D} {vs us : List U}, Rps W S ds vs → Rps W S es us → Rps W S (ds ++ es) (vs ++ us)
  | _, _, _, _, .nil, h => h
  | _, _, _, _, .cons r t, h => .cons r (Rps.app t h)
theorem Rps.take {W S} : ∀ {ds : List D} {vs : List U} (n : Nat), Rps W S ds vs → Rps W S (ds.take n) (vs.take n)
  | _, _, 0, _ => .nil
  | _, _, _ + 1, .nil => .nil
  | _, _, n + 1, .cons r t => .cons r (Rps.take n t)
theorem Rps.drop {W S} : ∀ {ds : List D} {vs : List U} (n : Nat), Rps W S ds vs → Rps W S (ds.drop n) (vs.drop n)
  | _, _, 0, r => r
  | _, _, _ + 1, .nil => .nil
  | _, _, n + 1, .cons _ t => Rps.drop n t
theorem Rps.at {W S} : ∀ {ds : List D} {vs : List U} {i : Nat} {u : U}, Rps W S ds vs → vs[i]? = some u → ∃ d, ds[i]? = some d ∧ Rp W S d u
  | _, _, i, _, .nil, e => by simp at e
  | _, _, 0, _, .cons r _, e => by simp at e; subst e; exact ⟨_, rfl, r⟩
  | _, _, i + 1, _, .cons _ t, e => by
    obtain ⟨v, h1, h2⟩ := Rps.at (i := i) t (by simpa using e)
    exact ⟨v, by simpa using h1, h2⟩
theorem Rps.set {W S} {d : D} {v : U} (r : Rp W S d v) : ∀ {ds : List D} {vs : List U} (i : Nat), Rps W S ds vs → Rps W S (ds.set i d) (vs.set i v)
  | _, _, _, .nil => .nil
  | _, _, 0, .cons _ t => .cons r t
  | _, _, i + 1, .cons q t => .cons q (Rps.set r i t)
theorem Rps.rev {W S} : ∀ {ds : List D} {vs : List U}, Rps W S ds vs → Rps W S ds.reverse vs.reverse
  | _, _, .nil => .nil
  | _, _, .cons r t => by simpa using (Rps.rev t).app (.cons r .nil)
theorem Rps.flat {W S} {ds : List D} {vs : List U} (h : Rps W S ds vs) : ∀ n : Nat, Rps W S (List.replicate n ds).flatten (List.replicate n vs).flatten
  | 0 => .nil
  | n + 1 => by
    rw [List.replicate_succ, List.replicate_succ, List.flatten_cons, List.flatten_cons]
    exact h.app (Rps.flat h n)
/-- what an operation reads: a value, or the list that a slot owns -/
def RpT (W : WP) (S : Sto) (d : D) (u : U) : Prop := Rp W S d u ∨ ∃ n ds us, d = .ref n ∧ u = .lst us ∧ S[n]? = some (.lst ds) ∧ Rps W S ds us
section
variable {W : WP} {S : Sto} {d : D}
theorem RpT.non (h : RpT W S d .non) : d = .non := by
  rcases h with h | ⟨_, _, _, _, h, _⟩
  · cases h; rfl
  · cases h
theorem RpT.bl {b : Bool} (h : RpT W S d (.bl b)) : d = .bl b := by
  rcases h with h | ⟨_, _, _, _, h, _⟩
  · cases h; rfl
  · cases h
theorem RpT.int {b : Int} (h : RpT W S d (.int b)) : d = .int b := by
  rcases h with h | ⟨_, _, _, _, h, _⟩
  · cases h; rfl
  · cases h
theorem RpT.str {b : Str} (h : RpT W S d (.str b)) : d = .str b := by
  rcases h with h | ⟨_, _, _, _, h, _⟩
  · cases h; rfl
  · cases h
theorem RpT.emp (h : RpT W S d .emp) : d = .emp := by
  rcases h with h | ⟨_, _, _, _, h, _⟩
  · cases h; rfl
  · cases h
theorem RpT.tup {us : List U} (h : RpT W S d (.tup us)) : ∃ ds, d = .tup ds ∧ Rps W S ds us := by
  rcases h with h | ⟨_, _, _, _, h, _⟩
  · cases h with | tup r => exact ⟨_, rfl, r⟩
  · cases h
theorem RpT.fl {us : List U} (h : RpT W S d (.fl us)) : ∃ ds, d = .fl ds ∧ Rps W S ds us := by
  rcases h with h | ⟨_, _, _, _, h, _⟩
  · cases h with | fl r => exact ⟨_, rfl, r⟩
  · cases h
theorem RpT.lst {us : List U} (h : RpT W S d (.lst us)) : ∃ n ds, d = .ref n ∧ S[n]? = some (.lst ds) ∧ Rps W S ds us := by
  rcases h with h | ⟨n, ds, _, h1, h, h2, h3⟩
  · cases h with | lst h e r => exact ⟨_, _, rfl, e, r⟩
  · cases h; exact ⟨n, ds, h1, h2, h3⟩
theorem RpT.exc {c : Str} {gs : List (Str × U)} (h : RpT W S d (.exc c gs)) : ∃ n fs, d = .ref n ∧ S[n]? = some (.exc c fs) ∧ Rpf W S fs gs := by
  rcases h with h | ⟨_, _, _, _, h, _⟩
  · cases h with | exc h e r => exact ⟨_, _, rfl, e, r⟩
  · cases h
end
/-- only these cells of the earlier store may be otherwise -/
def Frm (M : WP) (S S' : Sto) : Prop := S.length ≤ S'.length ∧ ∀ n, n < S.length → ¬ M n → S'[n]? = S[n]?
theorem Frm.refl {M S} : Frm M S S := ⟨Nat.le_refl _, fun _ _ _ => rfl⟩
theorem Frm.trans {M S S1 S2} (a : Frm M S S1) (b : Frm M S1 S2) : Frm M S S2 := ⟨Nat.le_trans a.1 b.1, fun n h m => (b.2 n (Nat.lt_of_lt_of_le h a.1) m).trans (a.2 n h m)⟩
theorem Frm.app {M S T} : Frm M S (S ++ T) := ⟨by simp, fun n h _ => List.getElem?_append_left h⟩
theorem Frm.mono {M M' : WP} {S S'} (a : Frm M S S') (h : ∀ n, M n → M' n) : Frm M' S S' := ⟨a.1, fun n l m => a.2 n l fun z => m (h n z)⟩
theorem Up.frm {M W : WP} {S S'} (h : ∀ n, M n → W n) (a : Frm M S S') : Up W S W S' := fun n c hw e => ⟨hw, by rw [a.2 n (lt_at e) fun z => hw (h n z)]; exact e⟩
def Mine (own : List Nat) (E : Ev) : WP := fun n => ∃ i, i ∈ own ∧ E[i]? = some (some (.ref n))
structure Rel (own : List Nat) (W : WP) (S : Sto) (E : Ev) (e : UV) : Prop where
  wf : ∀ n, W n → n < S.length
  len : E.length = e.length
  val : ∀ i u, e[i]? = some (some u) → i ∉ own → ∃ d, E[i]? = some (some d) ∧ Rp W S d u
  ow : ∀ i u, e[i]? = some (some u) → i ∈ own → ∃ n ds us, u = .lst us ∧ E[i]? = some (some (.ref n)) ∧ S[n]? = some (.lst ds) ∧ Rps W S ds us
  mw : ∀ n, Mine own E n → W n
  inj : ∀ i j n, i ∈ own → j ∈ own → E[i]? = some (some (.ref n)) → E[j]? = some (some (.ref n)) → i = j
/-- more cells, more of them owned by others -/
theorem Rel.up {own W S E e W' S'} (h : Rel own W S E e) (l : Up W S W' S') (hw : ∀ n, W n → W' n) (wf : ∀ n, W' n → n < S'.length) (hm : ∀ n, Mine own E n → S'[n]? = S[n]?) : Rel own W' S' E e :=
  ⟨wf, h.len, fun i u a b => let ⟨d, e1, r⟩ := h.val i u a b; ⟨d, e1, r.up l⟩,
   fun i u a b => let ⟨n, ds, us, e1, e2, e3, r⟩ := h.ow i u a b; ⟨n, ds, us, e1, e2, by rw [hm n ⟨i, b, e2⟩]; exact e3, r.up l⟩,
   fun n m => hw n (h.mw n m), h.inj⟩
theorem Rel.app {own W S E e} (h : Rel own W S E e) (T : Sto) : Rel own W (S ++ T) E e :=
  h.up Up.app (fun _ z => z) (fun n z => by have := h.wf n z; simp; omega) fun n m => List.getElem?_append_left (h.wf n (h.mw n m))
/-- a new cell, owned or not -/
theorem Rel.more {own W S E e} (h : Rel own W S E e) (c : Cell) : Rel own (fun n => W n ∨ n = S.length) (S ++ [c]) E e :=
  h.up (fun n c' hn e => ⟨fun z => z.elim hn fun z => by have := lt_at e; omega, by rw [List.getElem?_append_left (lt_at e)]; exact e⟩) (fun _ z => .inl z)
    (fun n z => by
      rcases z with z | z
      · have := h.wf n z
        simp
        omega
      · simp [z]) fun n m => List.getElem?_append_left (h.wf n (h.mw n m))
theorem Up.more {W : WP} {S : Sto} {c : Cell} : Up W S (fun n => W n ∨ n = S.length) (S ++ [c]) := fun n c' hn e => ⟨fun z => z.elim hn fun z => by have := lt_at e; omega, by rw [List.getElem?_append_left (lt_at e)]; exact e⟩
theorem Rel.anti {own W W' S E e} (h : Rel own W S E e) (hw : ∀ n, W' n → W n) (hm : ∀ n, Mine own E n → W' n) : Rel own W' S E e :=
  ⟨fun n z => h.wf n (hw n z), h.len, fun i u a b => let ⟨d, e1, r⟩ := h.val i u a b; ⟨d, e1, r.up (Up.anti hw)⟩,
   fun i u a b => let ⟨n, ds, us, e1, e2, e3, r⟩ := h.ow i u a b; ⟨n, ds, us, e1, e2, e3, r.up (Up.anti hw)⟩, hm, h.inj⟩

/-! ## results -/
inductive UQ (β : Type) where
  | ok (b : β) (e : UV)
  | exc (c : Str) (gs : List (Str × U)) (e : UV)
  | bad
def UQ.bind {β γ : Type} (q : UQ β) (k : β → UV → UQ γ) : UQ γ := match q with
  | .ok b e => k b e
  | .exc c gs e => .exc c gs e
  | .bad => .bad
inductive DQ (α : Type) where
  | ok (a : α) (S : Sto)
  | exc (c : Str) (fs : List (Str × D)) (S : Sto)
  | bad
def DQ.bind {α γ : Type} (q : DQ α) (k : α → Sto → DQ γ) : DQ γ := match q with
  | .ok b e => k b e
  | .exc c gs e => .exc c gs e
  | .bad => .bad
def Res.q : Res → DQ D
  | .ok d S => .ok d S
  | .exc c fs S => .exc c fs S
  | .bad => .bad
def ResB.q : ResB → DQ Bool
  | .ok d S => .ok d S
  | .exc c fs S => .exc c fs S
  | .bad => .bad
def ResL.q : ResL → DQ (List D)
  | .ok d S => .ok d S
  | .exc c fs S => .exc c fs S
  | .bad => .bad
theorem Res.q_bind (r : Res) (k : D → Sto → Res) : (r.bind k).q = r.q.bind fun d S => (k d S).q := by cases r <;> rfl
theorem Res.q_bindB (r : Res) (k : D → Sto → ResB) : (r.bindB k).q = r.q.bind fun d S => (k d S).q := by cases r <;> rfl
theorem Res.q_bindL (r : Res) (k : D → Sto → ResL) : (r.bindL k).q = r.q.bind fun d S => (k d S).q := by cases r <;> rfl
theorem ResB.q_bind (r : ResB) (k : Bool → Sto → Res) : (r.bind k).q = r.q.bind fun d S => (k d S).q := by cases r <;> rfl
theorem ResB.q_bindB (r : ResB) (k : Bool → Sto → ResB) : (r.bindB k).q = r.q.bind fun d S => (k d S).q := by cases r <;> rfl
theorem ResL.q_bind (r : ResL) (k : List D → Sto → Res) : (r.bind k).q = r.q.bind fun d S => (k d S).q := by cases r <;> rfl
theorem ResL.q_bindL (r : ResL) (k : List D → Sto → ResL) : (r.bindL k).q = r.q.bind fun d S => (k d S).q := by cases r <;> rfl
def QOk {α β : Type} (R : WP → Sto → α → β → Prop) (own : List Nat) (W : WP) (S : Sto) (E : Ev) (r : DQ α) (q : UQ β) : Prop := match q with
  | .ok b e => ∃ a S', r = .ok a S' ∧ R W S' a b ∧ Rel own W S' E e ∧ Frm (Mine own E) S S'
  | .exc c gs e => ∃ fs S', r = .exc c fs S' ∧ Rpf W S' fs gs ∧ Rel own W S' E e ∧ Frm (Mine own E) S S'
  | .bad => True
theorem QOk.pre {α β : Type} {R : WP → Sto → α → β → Prop} {own : List Nat} {W : WP} {S S1 : Sto} {E : Ev} {r : DQ α} {q : UQ β} (f : Frm (Mine own E) S S1) (h : QOk R own W S1 E r q) : QOk R own W S E r q := by
  cases q with
  | ok b e => obtain ⟨a, S', h1, h2, h3, h4⟩ := h; exact ⟨a, S', h1, h2, h3, f.trans h4⟩
  | exc c gs e => obtain ⟨a, S', h1, h2, h3, h4⟩ := h; exact ⟨a, S', h1, h2, h3, f.trans h4⟩
  | bad => trivial
theorem QOk.bind {α β γ δ : Type} {R : WP → Sto → α → β → Prop} {R' : WP → Sto → γ → δ → Prop} {own : List Nat} {W : WP} {S : Sto} {E : Ev} {r : DQ α} {q : UQ β} {kd : α → Sto → DQ γ} {k : β → UV → UQ δ} (h : QOk R own W S E r q)
    (hk : ∀ a b S1 e1, R W S1 a b → Rel own W S1 E e1 → Up W S W S1 → QOk R' own W S1 E (kd a S1) (k b e1)) : QOk R' own W S E (r.bind kd) (q.bind k) := by
  cases q with
  | ok b e =>
    obtain ⟨a, S', rfl, h2, h3, h4⟩ := h
    exact QOk.pre h4 (hk a b S' e h2 h3 (Up.frm h3.mw h4))
  | exc c gs e => obtain ⟨a, S', rfl, h2, h3, h4⟩ := h; exact ⟨a, S', rfl, h2, h3, h4⟩
  | bad => trivial
abbrev UE := UV → UQ U
abbrev UB := UV → UQ Bool
def RB (_ : WP) (_ : Sto) (a b : Bool) : Prop := a = b
def SE (own : List Nat) (f : FE) (q : UE) : Prop := ∀ W S E e, Rel own W S E e → QOk Rp own W S E (f E S).q (q e)
def SB (own : List Nat) (f : FB) (q : UB) : Prop := ∀ W S E e, Rel own W S E e → QOk RB own W S E (f E S).q (q e)
/-! ## what stands ahead of an operation -/
inductive Opd where
  | late (i : Nat)
  | now (f : UE)
def Opd.run : Opd → UV → UQ (Option U)
  | .late i, e => (match (e[i]?).join with
    | some _ => .ok none e
    | none => .bad)
  | .now f, e => (f e).bind fun u e1 => .ok (some u) e1
def Opd.get : Opd → Option U → UV → Option U
  | .late i, _, e => (e[i]?).join
  | .now _, a, _ => a
def RO (own : List Nat) (E : Ev) (o : Opd) (W : WP) (S : Sto) (d : D) (a : Option U) : Prop := match o with
  | .late i => E[i]? = some (some d) ∧ i ∈ own
  | .now _ => ∃ u, a = some u ∧ Rp W S d u
def SO (own : List Nat) (f : FE) (o : Opd) : Prop := ∀ W S E e, Rel own W S E e → QOk (RO own E o) own W S E (f E S).q (o.run e)
theorem RO.up {own E o W S d a S'} (h : RO own E o W S d a) (l : Up W S W S') : RO own E o W S' d a := by
  cases o with
  | late i => exact h
  | now f => obtain ⟨u, h1, h2⟩ := h; exact ⟨u, h1, h2.up l⟩
theorem RO.get {own E o W S d a e u} (h : RO own E o W S d a) (r : Rel own W S E e) (g : o.get a e = some u) : RpT W S d u := by
  cases o with
  | late i =>
    obtain ⟨h1, h2⟩ := h
    have g' : e[i]? = some (some u) := by
      unfold Opd.get at g
      cases z : e[i]? with
      | none => simp [z] at g
      | some v => simp [z] at g; rw [g]
    obtain ⟨n, ds, us, e1, e2, e3, e4⟩ := r.ow i u g' h2
    rw [h1] at e2
    cases e2
    exact .inr ⟨n, ds, us, rfl, e1, e3, e4⟩
  | now f =>
    obtain ⟨v, h1, h2⟩ := h
    unfold Opd.get at g
    rw [h1] at g
    cases g
    exact .inl h2
end Z
namespace Z
open PySem PySem.Spec PyProof.Rows L2
theorem QOk.bad {α β : Type} {R : WP → Sto → α → β → Prop} {own W S E r} : QOk R own W S E r (.bad : UQ β) := trivial
theorem QOk.ret {α β : Type} {R : WP → Sto → α → β → Prop} {own W S E e} {a : α} {b : β} {T : Sto} (h : R W (S ++ T) a b) (r : Rel own W S E e) : QOk R own W S E (.ok a (S ++ T)) (.ok b e) :=
  ⟨a, S ++ T, rfl, h, r.app T, Frm.app⟩
theorem QOk.ret0 {α β : Type} {R : WP → Sto → α → β → Prop} {own W S E e} {a : α} {b : β} (h : R W S a b) (r : Rel own W S E e) : QOk R own W S E (.ok a S) (.ok b e) :=
  ⟨a, S, rfl, h, r, Frm.refl⟩
def uRet {β : Type} : Option β → UV → UQ β
  | some u, e => .ok u e
  | none, _ => .bad
/-! ## constants, names -/
def uC (u : U) : UE := fun e => .ok u e
def uV (i : Nat) : UE := fun e => match e[i]? with
  | some (some u) => .ok u e
  | _ => .bad
theorem su_c {own d u} (h : ∀ W S, Rp W S d u) : SE own (vC d) (uC u) := fun W S E e r => QOk.ret0 (h W S) r
theorem su_v {own i} (h : decide (i ∉ own) = true) : SE own (vV i) (uV i) := fun W S E e r => by
  unfold uV
  split
  · rename_i u hu
    obtain ⟨d, e1, h1⟩ := r.val i u hu (of_decide_eq_true h)
    have : (vV i E S).q = .ok d S := by simp [vV, e1, Res.q]
    rw [this]
    exact QOk.ret0 h1 r
  · trivial
theorem so_late {own i} (h : decide (i ∈ own) = true) : SO own (vV i) (.late i) := fun W S E e r => by
  show QOk (RO own E (.late i)) own W S E _ (match (e[i]?).join with | some _ => UQ.ok none e | none => .bad)
  split
  · rename_i u hu
    have hu' : e[i]? = some (some u) := by
      cases z : e[i]? with
      | none => simp [z] at hu
      | some v => simp [z] at hu; rw [hu]
    obtain ⟨n, ds, us, h1, h2, h3, h4⟩ := r.ow i u hu' (of_decide_eq_true h)
    have : (vV i E S).q = .ok (.ref n) S := by simp [vV, h2, Res.q]
    rw [this]
    exact QOk.ret0 ⟨h2, of_decide_eq_true h⟩ r
  · trivial
theorem so_now {own f q} (h : SE own f q) : SO own f (.now q) := fun W S E e r => by
  have := QOk.bind (R' := RO own E (.now q)) (kd := fun d S => DQ.ok d S) (k := fun u e1 => UQ.ok (some u) e1) (h W S E e r) fun a b S1 e1 h1 r1 l => QOk.ret0 ⟨b, rfl, h1⟩ r1
  unfold Opd.run
  have e2 : ((f E S).q.bind fun d S => DQ.ok d S) = (f E S).q := by cases (f E S).q <;> rfl
  rw [e2] at this
  exact this
/-! ## operations -/
def Wf (W : WP) (S : Sto) : Prop := ∀ n, W n → n < S.length
def G1 (g : D → Sto → Res) (h : U → Option U) : Prop := ∀ W S d u r, Wf W S → RpT W S d u → h u = some r → ∃ x T, g d S = .ok x (S ++ T) ∧ Rp W (S ++ T) x r
def G2 (g : D → D → Sto → Res) (h : U → U → Option U) : Prop := ∀ W S d d2 u u2 r, Wf W S → RpT W S d u → RpT W S d2 u2 → h u u2 = some r → ∃ x T, g d d2 S = .ok x (S ++ T) ∧ Rp W (S ++ T) x r
def uUn (h : U → Option U) (o : Opd) : UE := fun e => (o.run e).bind fun a e1 => match o.get a e1 with
  | some u => uRet (h u) e1
  | none => .bad
def uBin (h : U → U → Option U) (o o2 : Opd) : UE := fun e => (o.run e).bind fun a e1 => (o2.run e1).bind fun b e2 => match o.get a e2, o2.get b e2 with
  | some u, some v => uRet (h u v) e2
  | _, _ => .bad
section
variable {own : List Nat} {f f1 f2 f3 : FE} {o o1 o2 o3 : Opd}
theorem ret_op {own W S E e} {h : Option U} {r : Res} (rl : Rel own W S E e) (hh : ∀ u, h = some u → ∃ x T, r = .ok x (S ++ T) ∧ Rp W (S ++ T) x u) : QOk Rp own W S E r.q (uRet h e) := by
  cases h with
  | none => trivial
  | some u =>
    obtain ⟨x, T, rfl, r⟩ := hh u rfl
    exact QOk.ret r rl
theorem ret_opB {own W S E e} {h : Option Bool} {r : ResB} (rl : Rel own W S E e) (hh : ∀ u, h = some u → ∃ T, r = .ok u (S ++ T)) : QOk RB own W S E r.q (uRet h e) := by
  cases h with
  | none => trivial
  | some u =>
    obtain ⟨T, rfl⟩ := hh u rfl
    exact QOk.ret (R := RB) rfl rl
theorem su_un {g h} (hg : G1 g h) (h1 : SO own f o) : SE own (vUn g f) (uUn h o) := fun W S E e r => by
  show QOk Rp own W S E ((f E S).bind fun x S1 => g x S1).q _
  rw [Res.q_bind]
  refine QOk.bind (h1 W S E e r) fun a b S1 e1 ra r1 l => ?_
  try dsimp only
  split
  · rename_i u hu
    exact ret_op r1 fun z hz => hg W S1 a u z r1.wf (ra.get r1 hu) hz
  · trivial
theorem su_bin {g h} (hg : G2 g h) (h1 : SO own f1 o1) (h2 : SO own f2 o2) : SE own (vBin g f1 f2) (uBin h o1 o2) := fun W S E e r => by
  show QOk Rp own W S E ((f1 E S).bind fun x S1 => (f2 E S1).bind fun y S2 => g x y S2).q _
  rw [Res.q_bind]
  refine QOk.bind (h1 W S E e r) fun a b S1 e1 ra r1 l => ?_
  rw [Res.q_bind]
  refine QOk.bind (h2 W S1 E e1 r1) fun a2 b2 S2 e2 ra2 r2 l2 => ?_
  try dsimp only
  split
  · rename_i u v hu hv
    exact ret_op r2 fun z hz => hg W S2 a a2 u v z r2.wf ((ra.up l2).get r2 hu) (ra2.get r2 hv) hz
  · trivial
/-- builtins of one, two, three values -/
def GC1 (g : List D → Sto → Res) (h : U → Option U) : Prop := G1 (fun d => g [d]) h
def GC2 (g : List D → Sto → Res) (h : U → U → Option U) : Prop := G2 (fun d d2 => g [d, d2]) h
theorem su_call1 {g h} (hg : GC1 g h) (h1 : SO own f o) : SE own (vCall g (lCons f lNil)) (uUn h o) := fun W S E e r => by
  have := su_un hg h1 W S E e r
  have e2 : vCall g (lCons f lNil) E S = vUn (fun d => g [d]) f E S := by
    unfold vCall lCons lNil vUn
    cases f E S <;> rfl
  rw [e2]
  exact this
theorem su_call2 {g h} (hg : GC2 g h) (h1 : SO own f1 o1) (h2 : SO own f2 o2) : SE own (vCall g (lCons f1 (lCons f2 lNil))) (uBin h o1 o2) := fun W S E e r => by
  have := su_bin hg h1 h2 W S E e r
  have e2 : vCall g (lCons f1 (lCons f2 lNil)) E S = vBin (fun d d2 => g [d, d2]) f1 f2 E S := by
    unfold vCall lCons lNil vBin
    cases h1 : f1 E S with
    | ok x S1 =>
      simp only [Res.bindL, Res.bind]
      cases h2 : f2 E S1 <;> rfl
    | exc c fs S1 => rfl
    | bad => rfl
  rw [e2]
  exact this
/-! ## tests -/
def uTruth : U → Option Bool
  | .non => some false
  | .bl b => some b
  | .int i => some (i != 0)
  | .str x => if x.length ≤ sizeLine then some ((x.length : Int) != 0) else none
  | .tup xs => some (!xs.isEmpty)
  | .fl xs => some (!xs.isEmpty)
  | .lst xs => some (!xs.isEmpty)
  | .emp => some false
  | .exc _ _ => none
theorem Rps.emp {W S} : ∀ {ds : List D} {us : List U}, Rps W S ds us → ds.isEmpty = us.isEmpty
  | _, _, .nil => rfl
  | _, _, .cons _ _ => rfl
theorem truth_u {W S d u b} (h : RpT W S d u) (t : uTruth u = some b) : truth d S = some b := by
  cases u with
  | non => rw [h.non]; exact t
  | bl b => rw [h.bl]; exact t
  | int b => rw [h.int]; exact t
  | str b => rw [h.str]; exact t
  | emp => rw [h.emp]; exact t
  | tup us => obtain ⟨ds, rfl, r⟩ := h.tup; simp only [truth, r.emp]; exact t
  | fl us => obtain ⟨ds, rfl, r⟩ := h.fl; simp only [truth, r.emp]; exact t
  | lst us => obtain ⟨n, ds, rfl, hs, r⟩ := h.lst; simp only [truth, hs, r.emp]; exact t
  | exc c gs => cases t
def uOf (o : Opd) : UB := fun e => (o.run e).bind fun a e1 => match o.get a e1 with
  | some u => uRet (uTruth u) e1
  | none => .bad
theorem sb_of (h1 : SO own f o) : SB own (bOf f) (uOf o) := fun W S E e r => by
  show QOk RB own W S E ((f E S).bindB fun d S1 => match truth d S1 with | some b => .ok b S1 | none => .bad).q _
  rw [Res.q_bindB]
  refine QOk.bind (h1 W S E e r) fun a b S1 e1 ra r1 l => ?_
  cases hu : o.get b e1 with
  | some u =>
    refine ret_opB r1 fun z hz => ⟨[], ?_⟩
    rw [truth_u (ra.get r1 hu) hz, List.append_nil]
  | none => trivial
def uBool : Option U → Option Bool
  | some (.bl b) => some b
  | _ => none
def uCmp (h : U → U → Option U) (o o2 : Opd) : UB := fun e => (o.run e).bind fun a e1 => (o2.run e1).bind fun b e2 => match o.get a e2, o2.get b e2 with
  | some u, some v => uRet (uBool (h u v)) e2
  | _, _ => .bad
theorem sb_cmp {g h} (hg : G2 g h) (h1 : SO own f1 o1) (h2 : SO own f2 o2) : SB own (bCmp g f1 f2) (uCmp h o1 o2) := fun W S E e r => by
  show QOk RB own W S E ((f1 E S).bindB fun x S1 => (f2 E S1).bindB fun y S2 => (g x y S2).bindB fun z S3 => match z with | .bl b => .ok b S3 | _ => .bad).q _
  rw [Res.q_bindB]
  refine QOk.bind (h1 W S E e r) fun a b S1 e1 ra r1 l => ?_
  rw [Res.q_bindB]
  refine QOk.bind (h2 W S1 E e1 r1) fun a2 b2 S2 e2 ra2 r2 l2 => ?_
  try dsimp only
  split
  · rename_i u v hu hv
    refine ret_opB r2 fun z hz => ?_
    have hz' : h u v = some (.bl z) := by
      cases q : h u v with
      | none => simp [q, uBool] at hz
      | some w =>
        rw [q] at hz
        cases w <;> simp [uBool] at hz
        rw [hz]
    obtain ⟨x, T, e3, rx⟩ := hg W S2 a a2 u v _ r2.wf ((ra.up l2).get r2 hu) (ra2.get r2 hv) hz'
    cases rx
    exact ⟨T, by rw [e3]; rfl⟩
  · trivial
def uBl (q : UE) : UB := fun e => (q e).bind fun u e1 => uRet (uBool (some u)) e1
theorem sb_bl {q} (h1 : SE own f q) : SB own (bBl f) (uBl q) := fun W S E e r => by
  show QOk RB own W S E ((f E S).bindB fun z S1 => match z with | .bl k => .ok k S1 | _ => .bad).q _
  rw [Res.q_bindB]
  refine QOk.bind (h1 W S E e r) fun a b S1 e1 ra r1 l => ?_
  refine ret_opB r1 fun z hz => ⟨[], ?_⟩
  have hz' : b = .bl z := by cases b <;> simp [uBool] at hz; rw [hz]
  subst hz'
  cases ra
  simp
def uAndB (p q : UB) : UB := fun e => (p e).bind fun b e1 => if b then q e1 else .ok false e1
def uOrB (p q : UB) : UB := fun e => (p e).bind fun b e1 => if b then .ok true e1 else q e1
def uNotB (p : UB) : UB := fun e => (p e).bind fun b e1 => .ok (!b) e1
def uTrue : UB := fun e => .ok true e
section
variable {p p2 : FB} {q q2 : UB}
theorem sb_and (h1 : SB own p q) (h2 : SB own p2 q2) : SB own (bAnd p p2) (uAndB q q2) := fun W S E e r => by
  show QOk RB own W S E ((p E S).bindB fun b S1 => if b then p2 E S1 else .ok false S1).q _
  rw [ResB.q_bindB]
  refine QOk.bind (h1 W S E e r) fun a b S1 e1 ra r1 l => ?_
  cases ra
  cases a with
  | true => exact h2 W S1 E e1 r1
  | false => exact QOk.ret0 (R := RB) rfl r1
theorem sb_or (h1 : SB own p q) (h2 : SB own p2 q2) : SB own (bOr p p2) (uOrB q q2) := fun W S E e r => by
  show QOk RB own W S E ((p E S).bindB fun b S1 => if b then .ok true S1 else p2 E S1).q _
  rw [ResB.q_bindB]
  refine QOk.bind (h1 W S E e r) fun a b S1 e1 ra r1 l => ?_
  cases ra
  cases a with
  | true => exact QOk.ret0 (R := RB) rfl r1
  | false => exact h2 W S1 E e1 r1
theorem sb_not (h1 : SB own p q) : SB own (bNot p) (uNotB q) := fun W S E e r => by
  show QOk RB own W S E ((p E S).bindB fun b S1 => .ok (!b) S1).q _
  rw [ResB.q_bindB]
  refine QOk.bind (h1 W S E e r) fun a b S1 e1 ra r1 l => ?_
  cases ra
  exact QOk.ret0 (R := RB) rfl r1
theorem sb_true : SB own bTrue uTrue := fun W S E e r => QOk.ret0 (R := RB) rfl r
def uIf (t : UB) (a b : UE) : UE := fun e => (t e).bind fun c e1 => if c then a e1 else b e1
theorem su_if {qa qb : UE} (h : SB own p q) (h1 : SE own f1 qa) (h2 : SE own f2 qb) : SE own (vIf p f1 f2) (uIf q qa qb) := fun W S E e r => by
  show QOk Rp own W S E ((p E S).bind fun b S1 => if b then f1 E S1 else f2 E S1).q _
  rw [ResB.q_bind]
  refine QOk.bind (h W S E e r) fun a b S1 e1 ra r1 l => ?_
  cases ra
  cases a with
  | true => exact h1 W S1 E e1 r1
  | false => exact h2 W S1 E e1 r1
end
def uTru (u : U) (e : UV) (k : Bool → UQ U) : UQ U := match uTruth u with
  | some b => k b
  | none => .bad
def uAnd (f g : UE) : UE := fun e => (f e).bind fun u e1 => uTru u e1 fun b => if b then g e1 else .ok u e1
def uOr (f g : UE) : UE := fun e => (f e).bind fun u e1 => uTru u e1 fun b => if b then .ok u e1 else g e1
def uNot (f : UE) : UE := fun e => (f e).bind fun u e1 => uTru u e1 fun b => .ok (.bl (!b)) e1
section
variable {q q2 : UE}
theorem tru_ok {own W S E e d u} {k : Bool → UQ U} {kd : Bool → Res} (rl : Rel own W S E e) (ra : Rp W S d u) (h : ∀ b, QOk Rp own W S E (kd b).q (k b)) : QOk Rp own W S E (match truth d S with | some b => kd b | none => Res.bad).q (uTru u e k) := by
  unfold uTru
  cases hb : uTruth u with
  | some b =>
    rw [truth_u (.inl ra) hb]
    exact h b
  | none => trivial
theorem su_and (h1 : SE own f1 q) (h2 : SE own f2 q2) : SE own (vAnd f1 f2) (uAnd q q2) := fun W S E e r => by
  show QOk Rp own W S E ((f1 E S).bind fun d S1 => match truth d S1 with | some b => if b then f2 E S1 else .ok d S1 | none => .bad).q _
  rw [Res.q_bind]
  refine QOk.bind (h1 W S E e r) fun a b S1 e1 ra r1 l => ?_
  refine tru_ok (kd := fun b => if b then f2 E S1 else .ok a S1) r1 ra fun c => ?_
  cases c with
  | true => exact h2 W S1 E e1 r1
  | false => exact QOk.ret0 ra r1
theorem su_or (h1 : SE own f1 q) (h2 : SE own f2 q2) : SE own (vOr f1 f2) (uOr q q2) := fun W S E e r => by
  show QOk Rp own W S E ((f1 E S).bind fun d S1 => match truth d S1 with | some b => if b then .ok d S1 else f2 E S1 | none => .bad).q _
  rw [Res.q_bind]
  refine QOk.bind (h1 W S E e r) fun a b S1 e1 ra r1 l => ?_
  refine tru_ok (kd := fun b => if b then .ok a S1 else f2 E S1) r1 ra fun c => ?_
  cases c with
  | true => exact QOk.ret0 ra r1
  | false => exact h2 W S1 E e1 r1
theorem su_not (h1 : SE own f1 q) : SE own (vNot f1) (uNot q) := fun W S E e r => by
  show QOk Rp own W S E ((f1 E S).bind fun d S1 => match truth d S1 with | some b => .ok (.bl (!b)) S1 | none => .bad).q _
  rw [Res.q_bind]
  refine QOk.bind (h1 W S E e r) fun a b S1 e1 ra r1 l => ?_
  refine tru_ok (kd := fun b => .ok (.bl (!b)) S1) r1 ra fun c => ?_
  exact QOk.ret0 (.bl _) r1
/-- a < b < c -/
def uChain (h1 h2 : U → U → Option U) (a b c : UE) : UE := fun e => (a e).bind fun x e1 => (b e1).bind fun y e2 => match uBool (h1 x y) with
  | some true => (c e2).bind fun z e3 => uRet (h2 y z) e3
  | some false => .ok (.bl false) e2
  | none => .bad
theorem uBool_some {h : Option U} {b : Bool} (e : uBool h = some b) : h = some (.bl b) := by
  cases h with
  | none => cases e
  | some u => cases u <;> simp [uBool] at e; rw [e]
theorem su_chain {g1 g2 h1 h2 qa qb qc} (k1 : G2 g1 h1) (k2 : G2 g2 h2) (ha : SE own f1 qa) (hb : SE own f2 qb) (hc : SE own f3 qc) : SE own (vChain g1 g2 f1 f2 f3) (uChain h1 h2 qa qb qc) := fun W S E e r => by
  show QOk Rp own W S E ((f1 E S).bind fun x S1 => (f2 E S1).bind fun y S2 => (g1 x y S2).bind fun z S3 => match z with
    | .bl k => if k then (f3 E S3).bind fun w S4 => g2 y w S4 else .ok (.bl false) S3
    | _ => .bad).q _
  rw [Res.q_bind]
  refine QOk.bind (ha W S E e r) fun a b S1 e1 ra r1 l => ?_
  rw [Res.q_bind]
  refine QOk.bind (hb W S1 E e1 r1) fun a2 b2 S2 e2 ra2 r2 l2 => ?_
  try dsimp only
  split
  · rename_i hz
    obtain ⟨x, T, e3, rx⟩ := k1 W S2 a a2 b b2 _ r2.wf (.inl (ra.up l2)) (.inl ra2) (uBool_some hz)
    cases rx
    rw [e3]
    simp only [Res.bind, if_true]
    refine QOk.pre (S1 := S2 ++ T) Frm.app ?_
    have := Res.q_bind (f3 E (S2 ++ T)) fun w S4 => g2 a2 w S4
    unfold Res.bind at this
    rw [this]
    refine QOk.bind (hc W (S2 ++ T) E e2 (r2.app T)) fun a3 b3 S3 e3 ra3 r3 l3 => ?_
    exact ret_op r3 fun z hz => k2 W S3 a2 a3 b2 b3 z r3.wf (.inl ((ra2.up Up.app).up l3)) (.inl ra3) hz
  · rename_i hz
    obtain ⟨x, T, e3, rx⟩ := k1 W S2 a a2 b b2 _ r2.wf (.inl (ra.up l2)) (.inl ra2) (uBool_some hz)
    cases rx
    rw [e3]
    exact QOk.ret (.bl _) r2
  · trivial
/-! ## rows of expressions -/
abbrev UL := UV → UQ (List U)
def SL (own : List Nat) (l : FL) (q : UL) : Prop := ∀ W S E e, Rel own W S E e → QOk Rps own W S E (l E S).q (q e)
def uNil : UL := fun e => .ok [] e
def uCons (f : UE) (l : UL) : UL := fun e => (f e).bind fun u e1 => (l e1).bind fun us e2 => .ok (u :: us) e2
theorem sl_nil : SL own lNil uNil := fun W S E e r => QOk.ret0 (R := Rps) .nil r
theorem sl_cons {l : FL} {ql : UL} (h1 : SE own f q) (h2 : SL own l ql) : SL own (lCons f l) (uCons q ql) := fun W S E e r => by
  show QOk Rps own W S E ((f E S).bindL fun x S1 => (l E S1).bindL fun xs S2 => .ok (x :: xs) S2).q _
  rw [Res.q_bindL]
  refine QOk.bind (h1 W S E e r) fun a b S1 e1 ra r1 l1 => ?_
  rw [ResL.q_bindL]
  refine QOk.bind (h2 W S1 E e1 r1) fun a2 b2 S2 e2 ra2 r2 l2 => ?_
  exact QOk.ret0 (R := Rps) (.cons (ra.up l2) ra2) r2
def uTup (l : UL) : UE := fun e => (l e).bind fun us e1 => if us.length ≤ 1000 then .ok (.tup us) e1 else .bad
def uLst (l : UL) : UE := fun e => (l e).bind fun us e1 => if us.length ≤ 1000 then .ok (.lst us) e1 else .bad
theorem su_tup {l : FL} {ql : UL} (h : SL own l ql) : SE own (vTup l) (uTup ql) := fun W S E e r => by
  show QOk Rp own W S E ((l E S).bind fun xs S1 => if xs.length ≤ 1000 then .ok (.tup xs) S1 else .bad).q _
  rw [ResL.q_bind]
  refine QOk.bind (h W S E e r) fun a b S1 e1 ra r1 l1 => ?_
  try dsimp only
  by_cases hz : b.length ≤ 1000
  · rw [if_pos hz, if_pos (by rw [Rps.len ra]; exact hz)]
    exact QOk.ret0 (.tup ra) r1
  · rw [if_neg hz]; trivial
theorem no_new {W : WP} {S : Sto} (wf : ∀ n, W n → n < S.length) : ¬ W S.length := fun h => Nat.lt_irrefl _ (wf _ h)
theorem Rp.newL {W : WP} {S : Sto} {ds us} (wf : ∀ n, W n → n < S.length) (r : Rps W S ds us) : Rp W (S ++ [.lst ds]) (.ref S.length) (.lst us) :=
  .lst (no_new wf) (by simp) (r.up Up.app)
theorem su_lst {l : FL} {ql : UL} (h : SL own l ql) : SE own (vLst l) (uLst ql) := fun W S E e r => by
  show QOk Rp own W S E ((l E S).bind fun xs S1 => if xs.length ≤ 1000 then .ok (.ref S1.length) (S1 ++ [.lst xs]) else .bad).q _
  rw [ResL.q_bind]
  refine QOk.bind (h W S E e r) fun a b S1 e1 ra r1 l1 => ?_
  try dsimp only
  by_cases hz : b.length ≤ 1000
  · rw [if_pos hz, if_pos (by rw [Rps.len ra]; exact hz)]
    exact QOk.ret (Rp.newL r1.wf ra) r1
  · rw [if_neg hz]; trivial
theorem su_emp : SE own vEmp (uC .emp) := fun W S E e r => QOk.ret0 .emp r
end
end
/-! ## a new list, for a slot that owns it -/
/-- the result is a new list and nothing else speaks of it -/
def FOk (own : List Nat) (W : WP) (S : Sto) (E : Ev) (r : Res) (q : UQ U) : Prop := match q with
  | .ok u e' => ∃ n ds us S', r = .ok (.ref n) S' ∧ u = .lst us ∧ S.length ≤ n ∧ S'[n]? = some (.lst ds) ∧ Rps (fun k => W k ∨ k = n) S' ds us ∧ Rel own (fun k => W k ∨ k = n) S' E e' ∧ Frm (Mine own E) S S'
  | .exc c gs e' => ∃ fs S', r = .exc c fs S' ∧ Rpf W S' fs gs ∧ Rel own W S' E e' ∧ Frm (Mine own E) S S'
  | .bad => True
def SF (own : List Nat) (f : FE) (q : UE) : Prop := ∀ W S E e, Rel own W S E e → FOk own W S E (f E S) (q e)
theorem ResL.q_ok {r : ResL} {a S} (h : r.q = .ok a S) : r = .ok a S := by cases r <;> cases h; rfl
theorem ResL.q_exc {r : ResL} {c a S} (h : r.q = .exc c a S) : r = .exc c a S := by cases r <;> cases h; rfl
theorem Res.q_ok {r : Res} {a S} (h : r.q = .ok a S) : r = .ok a S := by cases r <;> cases h; rfl
theorem Res.q_exc {r : Res} {c a S} (h : r.q = .exc c a S) : r = .exc c a S := by cases r <;> cases h; rfl
theorem sf_lst {own} {l : FL} {ql : UL} (h : SL own l ql) : SF own (vLst l) (uLst ql) := fun W S E e r => by
  have q := h W S E e r
  unfold uLst
  cases z : ql e with
  | bad => trivial
  | exc c gs e' =>
    rw [z] at q
    obtain ⟨fs, S', h1, h2, h3, h4⟩ := q
    exact ⟨fs, S', by simp [vLst, ResL.q_exc h1, ResL.bind], h2, h3, h4⟩
  | ok us e' =>
    rw [z] at q
    obtain ⟨ds, S', h1, h2, h3, h4⟩ := q
    show FOk own W S E _ (if us.length ≤ 1000 then UQ.ok (U.lst us) e' else .bad)
    by_cases hz : us.length ≤ 1000
    · rw [if_pos hz]
      refine ⟨S'.length, ds, us, S' ++ [.lst ds], ?_, rfl, h4.1, by simp, h2.up Up.more, h3.more _, h4.trans Frm.app⟩
      simp [vLst, ResL.q_ok h1, ResL.bind, Rps.len h2, hz]
    · rw [if_neg hz]; trivial
end Z
namespace Z
open PySem PySem.Spec PyProof.Rows L2
/-! ## statements -/
inductive US where
  | nx (e : UV) | brk (e : UV) | cnt (e : UV) | ret (u : U) (e : UV) | exc (c : Str) (gs : List (Str × U)) (e : UV) | bad
abbrev UF := UV → US
def UQ.s {β : Type} (q : UQ β) (k : β → UV → US) : US := match q with
  | .ok b e => k b e
  | .exc c gs e => .exc c gs e
  | .bad => .bad
def US.then (r : US) (k : UF) : US := match r with
  | .nx e => k e
  | r => r
structure Ctx (io : List Nat) (W0 : WP) (L0 : Nat) (own : List Nat) (W : WP) (S : Sto) (E : Ev) : Prop where
  a : ∀ n, W0 n → W n
  b : ∀ i n, i ∈ own → i ∉ io → E[i]? = some (some (.ref n)) → L0 ≤ n
  d : ∀ i, i ∈ io → i ∈ own
  c : ∀ i n, i ∈ io → E[i]? = some (some (.ref n)) → W0 n
  f : ∀ n, W0 n → n < L0
  g : L0 ≤ S.length
structure Stp (io : List Nat) (L0 : Nat) (W : WP) (S : Sto) (E : Ev) (W' : WP) (S' : Sto) (E' : Ev) : Prop where
  e : ∀ i, i ∈ io → E'[i]? = E[i]?
  l : S.length ≤ S'.length
  w : Up W S W' S'
  f : ∀ n, n < L0 → ¬ Mine io E n → S'[n]? = S[n]?
theorem Stp.refl {io L0 W S E} : Stp io L0 W S E W S E := ⟨fun _ _ => rfl, Nat.le_refl _, Up.refl, fun _ _ _ => rfl⟩
theorem Stp.trans {io L0 W S E W1 S1 E1 W2 S2 E2} (x : Stp io L0 W S E W1 S1 E1) (y : Stp io L0 W1 S1 E1 W2 S2 E2) : Stp io L0 W S E W2 S2 E2 :=
  ⟨fun i h => (y.e i h).trans (x.e i h), Nat.le_trans x.l y.l, x.w.trans y.w, fun n h m => (y.f n h fun ⟨i, z1, z2⟩ => m ⟨i, z1, by rw [← x.e i z1]; exact z2⟩).trans (x.f n h m)⟩
theorem Stp.of {io W0 L0 own W S E S1} (c : Ctx io W0 L0 own W S E) (hm : ∀ n, Mine own E n → W n) (h : Frm (Mine own E) S S1) : Stp io L0 W S E W S1 E :=
  ⟨fun _ _ => rfl, h.1, Up.frm hm h, fun n hn m => h.2 n (Nat.lt_of_lt_of_le hn c.g) fun ⟨i, z1, z2⟩ => by
    by_cases hi : i ∈ io
    · exact m ⟨i, hi, z2⟩
    · exact absurd hn (Nat.not_lt.mpr (c.b i n z1 hi z2))⟩
theorem Ctx.frm {io W0 L0 own W S E S1} (c : Ctx io W0 L0 own W S E) (h : S.length ≤ S1.length) : Ctx io W0 L0 own W S1 E :=
  ⟨c.a, c.b, c.d, c.c, c.f, Nat.le_trans c.g h⟩
/-- a slot lets its list go -/
def Drop (own lo : List Nat) (E : Ev) (W : WP) : WP := fun n => W n ∧ ¬ ∃ i, i ∈ own ∧ i ∉ lo ∧ E[i]? = some (some (.ref n))
theorem shrinkD {io W0 L0 own W S E e} (lo : List Nat) (c : Ctx io W0 L0 own W S E) (r : Rel own W S E e) (h1 : ∀ i, i ∈ lo → i ∈ own) (h2 : ∀ i, i ∈ io → i ∈ lo) :
    Ctx io W0 L0 lo (Drop own lo E W) S E ∧ Rel lo (Drop own lo E W) S E e ∧ Stp io L0 W S E (Drop own lo E W) S E := by
  refine ⟨⟨fun n h => ⟨c.a n h, ?_⟩, fun i n a b z => c.b i n (h1 i a) b z, h2, c.c, c.f, c.g⟩, ⟨fun n h => r.wf n h.1, r.len, ?_, ?_, ?_, fun i j n a b => r.inj i j n (h1 i a) (h1 j b)⟩, ⟨fun _ _ => rfl, Nat.le_refl _, Up.anti fun n z => z.1, fun _ _ _ => rfl⟩⟩
  · rintro ⟨i, a, b, z⟩
    exact absurd (c.f n h) (Nat.not_lt.mpr (c.b i n a (fun q => b (h2 i q)) z))
  · intro i u a b
    by_cases hi : i ∈ own
    · obtain ⟨n, ds, us, rfl, e2, e3, q⟩ := r.ow i u a hi
      exact ⟨_, e2, .lst (fun z => z.2 ⟨i, hi, b, e2⟩) e3 (q.up (Up.anti fun n z => z.1))⟩
    · obtain ⟨d, e1, q⟩ := r.val i u a hi
      exact ⟨d, e1, q.up (Up.anti fun n z => z.1)⟩
  · intro i u a b
    obtain ⟨n, ds, us, e1, e2, e3, q⟩ := r.ow i u a (h1 i b)
    exact ⟨n, ds, us, e1, e2, e3, q.up (Up.anti fun n z => z.1)⟩
  · rintro n ⟨i, a, z⟩
    refine ⟨r.mw n ⟨i, h1 i a, z⟩, ?_⟩
    rintro ⟨j, b1, b2, z2⟩
    exact b2 (r.inj i j n (h1 i a) b1 z z2 ▸ a)
theorem shrink {io W0 L0 own W S E e} (lo : List Nat) (c : Ctx io W0 L0 own W S E) (r : Rel own W S E e) (h1 : ∀ i, i ∈ lo → i ∈ own) (h2 : ∀ i, i ∈ io → i ∈ lo) :
    ∃ W', Ctx io W0 L0 lo W' S E ∧ Rel lo W' S E e ∧ Stp io L0 W S E W' S E := ⟨_, shrinkD lo c r h1 h2⟩
/-- what is handed back: a value, or a new list that nothing else speaks of -/
def RR (md : Bool) (io : List Nat) (L0 : Nat) (W : WP) (S : Sto) (E : Ev) (e : UV) (d : D) (u : U) : Prop := match md with
  | false => Rp W S d u
  | true => ∃ n fs us, d = .ref n ∧ u = .lst us ∧ L0 ≤ n ∧ S[n]? = some (.lst fs) ∧ Rps (fun k => W k ∨ k = n) S fs us ∧ Rel io (fun k => W k ∨ k = n) S E e
def SOk (md : Bool) (io lo xo own' : List Nat) (W0 : WP) (L0 : Nat) (W : WP) (S : Sto) (E : Ev) (r : SRes) (q : US) : Prop := match q with
  | .nx e' => ∃ E' S' W', r = .nx E' S' ∧ Ctx io W0 L0 own' W' S' E' ∧ Rel own' W' S' E' e' ∧ Stp io L0 W S E W' S' E'
  | .brk e' => ∃ E' S' W', r = .brk E' S' ∧ Ctx io W0 L0 lo W' S' E' ∧ Rel lo W' S' E' e' ∧ Stp io L0 W S E W' S' E'
  | .cnt e' => ∃ E' S' W', r = .cnt E' S' ∧ Ctx io W0 L0 lo W' S' E' ∧ Rel lo W' S' E' e' ∧ Stp io L0 W S E W' S' E'
  | .exc c gs e' => ∃ fs E' S' W', r = .exc c fs E' S' ∧ Rpf W' S' fs gs ∧ Ctx io W0 L0 xo W' S' E' ∧ Rel xo W' S' E' e' ∧ Stp io L0 W S E W' S' E'
  | .ret u e' => ∃ d E' S' W', r = .ret d S' ∧ RR md io L0 W' S' E' e' d u ∧ Ctx io W0 L0 io W' S' E' ∧ Rel io W' S' E' e' ∧ Stp io L0 W S E W' S' E'
  | .bad => True
def SS (md : Bool) (io lo xo own own' : List Nat) (f : FS) (q : UF) : Prop := ∀ W0 L0 W S E e, Ctx io W0 L0 own W S E → Rel own W S E e → SOk md io lo xo own' W0 L0 W S E (f E S) (q e)
theorem SOk.pre {md io lo xo own' W0 L0 W S E W1 S1 E1 r q} (s : Stp io L0 W S E W1 S1 E1) (h : SOk md io lo xo own' W0 L0 W1 S1 E1 r q) : SOk md io lo xo own' W0 L0 W S E r q := by
  cases q with
  | nx e => obtain ⟨E', S', W', h1, h2, h3, h4⟩ := h; exact ⟨E', S', W', h1, h2, h3, s.trans h4⟩
  | brk e => obtain ⟨E', S', W', h1, h2, h3, h4⟩ := h; exact ⟨E', S', W', h1, h2, h3, s.trans h4⟩
  | cnt e => obtain ⟨E', S', W', h1, h2, h3, h4⟩ := h; exact ⟨E', S', W', h1, h2, h3, s.trans h4⟩
  | exc c gs e => obtain ⟨fs, E', S', W', h1, h2, h3, h4, h5⟩ := h; exact ⟨fs, E', S', W', h1, h2, h3, h4, s.trans h5⟩
  | ret u e => obtain ⟨d, E', S', W', h1, h2, h3, h4, h5⟩ := h; exact ⟨d, E', S', W', h1, h2, h3, h4, s.trans h5⟩
  | bad => trivial
def subB (a b : List Nat) : Bool := a.all fun i => decide (i ∈ b)
theorem subB_ok {a b : List Nat} (h : subB a b = true) : ∀ i, i ∈ a → i ∈ b := fun i z => of_decide_eq_true (List.all_eq_true.mp h i z)
theorem exc_ok {md io lo xo own own' W0 L0 W S E W1 S1 e c fs gs} (hx : (subB xo own && subB io xo) = true) (k : Ctx io W0 L0 own W1 S1 E) (r : Rel own W1 S1 E e) (rx : Rpf W1 S1 fs gs) (st : Stp io L0 W S E W1 S1 E) : SOk md io lo xo own' W0 L0 W S E (.exc c fs E S1) (.exc c gs e) := by
  obtain ⟨z1, z2⟩ := Bool.and_eq_true_iff.mp hx
  obtain ⟨W', k2, r2, s2⟩ := shrink xo k r (subB_ok z1) (subB_ok z2)
  exact ⟨fs, E, S1, W', rfl, rx.up s2.w, k2, r2, st.trans s2⟩
section
variable {md : Bool} {io lo xo own own1 own2 own' : List Nat}
theorem SOk.bind {β : Type} {R : WP → Sto → D → β → Prop} {W0 L0 W S E e} {r : Res} {q : UQ β} {kd : D → Sto → SRes} {k : β → UV → US} (hx : (subB xo own && subB io xo) = true) (c : Ctx io W0 L0 own W S E) (rl : Rel own W S E e) (h : QOk R own W S E r.q q)
    (hk : ∀ a b S1 e1, R W S1 a b → Rel own W S1 E e1 → Ctx io W0 L0 own W S1 E → Up W S W S1 → SOk md io lo xo own' W0 L0 W S1 E (kd a S1) (k b e1)) : SOk md io lo xo own' W0 L0 W S E (r.s E kd) (q.s k) := by
  cases q with
  | ok b e' =>
    obtain ⟨a, S', h1, h2, h3, h4⟩ := h
    rw [Res.q_ok h1]
    exact SOk.pre (Stp.of c rl.mw h4) (hk a b S' e' h2 h3 (c.frm h4.1) (Up.frm rl.mw h4))
  | exc cc gs e' =>
    obtain ⟨a, S', h1, h2, h3, h4⟩ := h
    rw [Res.q_exc h1]
    exact exc_ok hx (c.frm h4.1) h3 h2 (Stp.of c rl.mw h4)
  | bad => trivial
theorem ResB.q_ok {r : ResB} {a S} (h : r.q = .ok a S) : r = .ok a S := by cases r <;> cases h; rfl
theorem ResB.q_exc {r : ResB} {c a S} (h : r.q = .exc c a S) : r = .exc c a S := by cases r <;> cases h; rfl
theorem SOk.bindB {W0 L0 W S E e} {r : ResB} {q : UQ Bool} {kd : Bool → Sto → SRes} {k : Bool → UV → US} (hx : (subB xo own && subB io xo) = true) (c : Ctx io W0 L0 own W S E) (rl : Rel own W S E e) (h : QOk RB own W S E r.q q)
    (hk : ∀ b S1 e1, Rel own W S1 E e1 → Ctx io W0 L0 own W S1 E → Up W S W S1 → SOk md io lo xo own' W0 L0 W S1 E (kd b S1) (k b e1)) : SOk md io lo xo own' W0 L0 W S E (r.s E kd) (q.s k) := by
  cases q with
  | ok b e' =>
    obtain ⟨a, S', h1, h2, h3, h4⟩ := h
    cases h2
    rw [ResB.q_ok h1]
    exact SOk.pre (Stp.of c rl.mw h4) (hk _ S' e' h3 (c.frm h4.1) (Up.frm rl.mw h4))
  | exc cc gs e' =>
    obtain ⟨a, S', h1, h2, h3, h4⟩ := h
    rw [ResB.q_exc h1]
    exact exc_ok hx (c.frm h4.1) h3 h2 (Stp.of c rl.mw h4)
  | bad => trivial
theorem nx_ok {W0 L0 W S E e} (c : Ctx io W0 L0 own W S E) (r : Rel own W S E e) : SOk md io lo xo own W0 L0 W S E (.nx E S) (.nx e) := ⟨E, S, W, rfl, c, r, Stp.refl⟩
def uNop : UF := fun e => .nx e
def uSeq (f g : UF) : UF := fun e => (f e).then g
def uSet (i : Nat) (f : UE) : UF := fun e => (f e).s fun u e1 => .nx (e1.set i (some u))
def uEx (f : UE) : UF := fun e => (f e).s fun _ e1 => .nx e1
def uReturn (f : UE) : UF := fun e => (f e).s fun u e1 => .ret u e1
def uRetN : UF := fun e => .ret .non e
def uIfS (t : UB) (f g : UF) : UF := fun e => (t e).s fun b e1 => if b then f e1 else g e1
def uBrk : UF := fun e => .brk e
def uCnt : UF := fun e => .cnt e
theorem ss_nil : SS md io lo xo own own sNil uNop := fun W0 L0 W S E e c r => nx_ok c r
theorem ss_seq {f g q p} (h1 : SS md io lo xo own own1 f q) (h2 : SS md io lo xo own1 own2 g p) : SS md io lo xo own own2 (sSeq f g) (uSeq q p) := fun W0 L0 W S E e c r => by
  have h := h1 W0 L0 W S E e c r
  unfold sSeq uSeq
  cases z : q e with
  | nx e' =>
    rw [z] at h
    obtain ⟨E', S', W', h1, h3, h4, h5⟩ := h
    rw [h1]
    exact SOk.pre h5 (h2 W0 L0 W' S' E' e' h3 h4)
  | brk e' => rw [z] at h; obtain ⟨E', S', W', h1, h3⟩ := h; rw [h1]; exact ⟨E', S', W', rfl, h3⟩
  | cnt e' => rw [z] at h; obtain ⟨E', S', W', h1, h3⟩ := h; rw [h1]; exact ⟨E', S', W', rfl, h3⟩
  | exc cc gs e' => rw [z] at h; obtain ⟨fs, E', S', W', h1, h3⟩ := h; rw [h1]; exact ⟨fs, E', S', W', rfl, h3⟩
  | ret u e' => rw [z] at h; obtain ⟨fs, E', S', W', h1, h3⟩ := h; rw [h1]; exact ⟨fs, E', S', W', rfl, h3⟩
  | bad => trivial
/-- slots let their lists go: ahead, behind -/
theorem ss_let {f q} (h : SS md io lo xo own1 own' f q) (hs : (subB own1 own && subB io own1) = true) : SS md io lo xo own own' f q := fun W0 L0 W S E e c r => by
  obtain ⟨z1, z2⟩ := Bool.and_eq_true_iff.mp hs
  obtain ⟨W', k2, r2, s2⟩ := shrink own1 c r (subB_ok z1) (subB_ok z2)
  exact SOk.pre s2 (h W0 L0 W' S E e k2 r2)
theorem ss_lets {f q} (h : SS md io lo xo own own1 f q) (hs : (subB own' own1 && subB io own') = true) : SS md io lo xo own own' f q := fun W0 L0 W S E e c r => by
  have h := h W0 L0 W S E e c r
  cases z : q e with
  | nx e' =>
    rw [z] at h
    obtain ⟨E', S', W', h1, h3, h4, h5⟩ := h
    obtain ⟨z1, z2⟩ := Bool.and_eq_true_iff.mp hs
    obtain ⟨W2, k2, r2, s2⟩ := shrink own' h3 h4 (subB_ok z1) (subB_ok z2)
    exact ⟨E', S', W2, h1, k2, r2, h5.trans s2⟩
  | brk e' => rw [z] at h; exact h
  | cnt e' => rw [z] at h; exact h
  | exc cc gs e' => rw [z] at h; exact h
  | ret u e' => rw [z] at h; exact h
  | bad => trivial
theorem set_other {α : Type} {l : List α} {i j : Nat} {x : α} (h : i ≠ j) : (l.set i x)[j]? = l[j]? := List.getElem?_set_ne h
theorem Rel.set {W S E e i d u} (r : Rel own W S E e) (hi : i ∉ own) (rp : Rp W S d u) : Rel own W S (E.set i (some d)) (e.set i (some u)) := by
  have ne : ∀ j, j ∈ own → i ≠ j := fun j hj z => hi (z ▸ hj)
  refine ⟨r.wf, by simp [r.len], fun j v a b => ?_, fun j v a b => ?_, fun n ⟨j, a, z⟩ => r.mw n ⟨j, a, by rw [set_other (ne j a)] at z; exact z⟩, fun j k n a b => ?_⟩
  · by_cases hij : i = j
    · subst hij
      have hl : i < e.length := by simpa using (List.getElem?_eq_some_iff.mp a).1
      rw [List.getElem?_set_self hl] at a
      cases a
      exact ⟨d, by rw [List.getElem?_set_self (r.len ▸ hl)], rp⟩
    · rw [set_other hij] at a
      obtain ⟨x, h1, h2⟩ := r.val j v a b
      exact ⟨x, by rw [set_other hij]; exact h1, h2⟩
  · rw [set_other (ne j b)] at a
    obtain ⟨n, ds, us, h1, h2, h3⟩ := r.ow j v a b
    exact ⟨n, ds, us, h1, by rw [set_other (ne j b)]; exact h2, h3⟩
  · rw [set_other (ne j a), set_other (ne k b)]
    exact r.inj j k n a b
theorem Ctx.set {W0 L0 W S E i d} (c : Ctx io W0 L0 own W S E) (hi : i ∉ own) : Ctx io W0 L0 own W S (E.set i (some d)) := by
  have ne : ∀ j, j ∈ own → i ≠ j := fun j hj z => hi (z ▸ hj)
  exact ⟨c.a, fun j n a b z => c.b j n a b (by rw [set_other (ne j a)] at z; exact z), c.d, fun j n a z => c.c j n a (by rw [set_other (ne j (c.d j a))] at z; exact z), c.f, c.g⟩
theorem Stp.set {W0 L0 W S E i d} (c : Ctx io W0 L0 own W S E) (hi : i ∉ own) : Stp io L0 W S E W S (E.set i (some d)) :=
  ⟨fun j hj => set_other fun z => hi (z ▸ c.d j hj), Nat.le_refl _, Up.refl, fun _ _ _ => rfl⟩
theorem ss_set {i f q} (h : SE own f q) (hx : (subB xo own && subB io xo) = true) (hi : decide (i ∉ own) = true) : SS md io lo xo own own (sSet i f) (uSet i q) := fun W0 L0 W S E e c r => by
  refine SOk.bind hx c r (h W S E e r) fun a b S1 e1 ra r1 c1 l => ?_
  have hi := of_decide_eq_true hi
  exact ⟨_, S1, W, rfl, c1.set hi, r1.set hi ra, Stp.set c1 hi⟩
/-- a slot comes to own a new list -/
theorem Rel.setO {W S E e i n ds us} (r : Rel own W S E e) (hw : W n) (hn : S[n]? = some (.lst ds)) (rs : Rps W S ds us) (hm : ¬ Mine own E n) : Rel (i :: own) W S (E.set i (some (.ref n))) (e.set i (some (.lst us))) := by
  refine ⟨r.wf, by simp [r.len], fun j v a b => ?_, fun j v a b => ?_, ?_, ?_⟩
  · have hij : i ≠ j := fun z => b (z ▸ List.mem_cons_self)
    rw [set_other hij] at a
    obtain ⟨x, h1, h2⟩ := r.val j v a fun z => b (List.mem_cons_of_mem _ z)
    exact ⟨x, by rw [set_other hij]; exact h1, h2⟩
  · by_cases hij : i = j
    · subst hij
      have hl : i < e.length := by simpa using (List.getElem?_eq_some_iff.mp a).1
      rw [List.getElem?_set_self hl] at a
      cases a
      exact ⟨n, ds, us, rfl, by rw [List.getElem?_set_self (r.len ▸ hl)], hn, rs⟩
    · rw [set_other hij] at a
      obtain ⟨m, ds, us, h1, h2, h3⟩ := r.ow j v a ((List.mem_cons.mp b).resolve_left fun z => hij z.symm)
      exact ⟨m, ds, us, h1, by rw [set_other hij]; exact h2, h3⟩
  · rintro m ⟨j, a, z⟩
    by_cases hij : i = j
    · subst hij
      by_cases hl : i < E.length
      · rw [List.getElem?_set_self hl] at z
        cases z
        exact hw
      · rw [List.getElem?_eq_none (by simpa using hl)] at z
        cases z
    · rw [set_other hij] at z
      exact r.mw m ⟨j, (List.mem_cons.mp a).resolve_left fun z => hij z.symm, z⟩
  · have key : ∀ j m, j ∈ i :: own → (E.set i (some (.ref n)))[j]? = some (some (.ref m)) → (i = j ∧ m = n) ∨ (i ≠ j ∧ j ∈ own ∧ E[j]? = some (some (.ref m))) := fun j m a z => by
      by_cases hij : i = j
      · subst hij
        by_cases hl : i < E.length
        · rw [List.getElem?_set_self hl] at z
          cases z
          exact .inl ⟨rfl, rfl⟩
        · rw [List.getElem?_eq_none (by simpa using hl)] at z
          cases z
      · rw [set_other hij] at z
        exact .inr ⟨hij, (List.mem_cons.mp a).resolve_left fun z => hij z.symm, z⟩
    intro j k m a b za zb
    rcases key j m a za with ⟨rfl, rfl⟩ | ⟨h1, h2, h3⟩
    · rcases key k m b zb with ⟨rfl, _⟩ | ⟨_, h5, h6⟩
      · rfl
      · exact absurd ⟨k, h5, h6⟩ hm
    · rcases key k m b zb with ⟨rfl, rfl⟩ | ⟨_, h5, h6⟩
      · exact absurd ⟨j, h2, h3⟩ hm
      · exact r.inj j k m h2 h5 h3 h6
theorem Ctx.setO {W0 L0 W S E i n} (c : Ctx io W0 L0 own W S E) (hi : i ∉ io) (hn : L0 ≤ n) : Ctx io W0 L0 (i :: own) W S (E.set i (some (.ref n))) := by
  refine ⟨c.a, fun j m a b z => ?_, fun j hj => List.mem_cons_of_mem _ (c.d j hj), fun j m a z => c.c j m a (by rw [set_other (fun (q : i = j) => hi (q ▸ a))] at z; exact z), c.f, c.g⟩
  by_cases hij : i = j
  · subst hij
    by_cases hl : i < E.length
    · rw [List.getElem?_set_self hl] at z
      cases z
      exact hn
    · rw [List.getElem?_eq_none (by simpa using hl)] at z
      cases z
  · rw [set_other hij] at z
    exact c.b j m ((List.mem_cons.mp a).resolve_left fun z => hij z.symm) b z
theorem ss_setO {i f q} (h : SF own f q) (hx : (subB xo own && subB io xo) = true) (hi : decide (i ∉ io) = true) : SS md io lo xo own (i :: own) (sSet i f) (uSet i q) := fun W0 L0 W S E e c r => by
  have h := h W S E e r
  have hi := of_decide_eq_true hi
  unfold uSet sSet
  cases z : q e with
  | ok u e' =>
    rw [z] at h
    obtain ⟨n, ds, us, S', h1, rfl, h3, h4, h5, h6, h7⟩ := h
    rw [h1]
    have hm : ¬ Mine own E n := fun zz => by
      have := r.wf n (r.mw n zz)
      omega
    refine ⟨_, S', fun k => W k ∨ k = n, rfl, ?_, h6.setO (.inr rfl) h4 h5 hm, ?_⟩
    · have c2 := (c.frm h7.1).setO (i := i) (n := n) hi (Nat.le_trans c.g h3)
      exact ⟨fun k z => .inl (c2.a k z), c2.b, c2.d, c2.c, c2.f, c2.g⟩
    · have s1 := Stp.of c r.mw h7
      refine ⟨fun j hj => ?_, s1.l, fun k cc a b => ?_, s1.f⟩
      · exact set_other fun zz => hi (zz ▸ hj)
      · have := s1.w k cc a b
        refine ⟨fun zz => zz.elim this.1 fun zz => ?_, this.2⟩
        have := lt_at b
        omega
  | exc cc gs e' =>
    rw [z] at h
    obtain ⟨a, S', h1, h2, h3, h4⟩ := h
    rw [h1]
    exact exc_ok hx (c.frm h4.1) h3 h2 (Stp.of c r.mw h4)
  | bad => trivial
theorem ss_ex {f q} (h : SE own f q) (hx : (subB xo own && subB io xo) = true) : SS md io lo xo own own (sEx f) (uEx q) := fun W0 L0 W S E e c r =>
  SOk.bind hx c r (h W S E e r) fun a b S1 e1 ra r1 c1 l => nx_ok c1 r1
theorem ss_ret {f q} (h : SE own f q) (hx : (subB xo own && subB io xo) = true) (hi : subB io own = true) : SS false io lo xo own own' (sRet f) (uReturn q) := fun W0 L0 W S E e c r =>
  SOk.bind hx c r (h W S E e r) fun a b S1 e1 ra r1 c1 l => by
    obtain ⟨W', k2, r2, s2⟩ := shrink io c1 r1 (subB_ok hi) (fun _ z => z)
    exact ⟨a, E, S1, W', rfl, ra.up s2.w, k2, r2, s2⟩
theorem ss_retN (hi : subB io own = true) : SS false io lo xo own own' sRetN uRetN := fun W0 L0 W S E e c r => by
  obtain ⟨W', k2, r2, s2⟩ := shrink io c r (subB_ok hi) (fun _ z => z)
  exact ⟨.non, E, S, W', rfl, .non, k2, r2, s2⟩
theorem ss_retF {f q} (h : SF own f q) (hx : (subB xo own && subB io xo) = true) (hi : subB io own = true) : SS true io lo xo own own' (sRet f) (uReturn q) := fun W0 L0 W S E e c r => by
  have h := h W S E e r
  unfold uReturn sRet
  cases z : q e with
  | bad => trivial
  | exc cc gs e' =>
    rw [z] at h
    obtain ⟨a, S', h1, h2, h3, h4⟩ := h
    rw [h1]
    exact exc_ok hx (c.frm h4.1) h3 h2 (Stp.of c r.mw h4)
  | ok u e' =>
    rw [z] at h
    obtain ⟨n, fs, us, S', h1, rfl, h3, h4, h5, h6, h7⟩ := h
    rw [h1]
    have hlt : ∀ k, W k → k < n := fun k hk => Nat.lt_of_lt_of_le (r.wf k hk) h3
    have c1 : Ctx io W0 L0 own (fun k => W k ∨ k = n) S' E := ⟨fun k z => .inl (c.a k z), c.b, c.d, c.c, c.f, Nat.le_trans c.g h7.1⟩
    obtain ⟨c2, r2, s2⟩ := shrinkD io c1 h6 (subB_ok hi) (fun _ z => z)
    have hn : Drop own io E (fun k => W k ∨ k = n) n := ⟨.inr rfl, fun ⟨i, a, _, z⟩ => Nat.lt_irrefl _ (hlt n (r.mw n ⟨i, a, z⟩))⟩
    have hW : (fun k => (Drop own io E (fun k => W k ∨ k = n) k ∧ k ≠ n) ∨ k = n) = Drop own io E (fun k => W k ∨ k = n) := funext fun k => propext ⟨fun zz => zz.elim (fun q => q.1) fun q => q ▸ hn, fun zz => by
      by_cases hk : k = n
      · exact .inr hk
      · exact .inl ⟨zz, hk⟩⟩
    have rn : Rel io (fun k => (Drop own io E (fun k => W k ∨ k = n) k ∧ k ≠ n) ∨ k = n) S' E e' := by rw [hW]; exact r2
    refine ⟨.ref n, E, S', fun k => Drop own io E (fun k => W k ∨ k = n) k ∧ k ≠ n, rfl, ⟨n, fs, us, rfl, rfl, Nat.le_trans c.g h3, h4, ?_, rn⟩, ⟨fun k zz => ⟨c2.a k zz, fun q => ?_⟩, fun i k a b => absurd a b, fun _ zz => zz, c.c, c.f, c1.g⟩, r2.anti (fun k zz => zz.1) fun k zz => ⟨r2.mw k zz, fun q => ?_⟩, ?_⟩
    · rw [hW]
      exact h5.up (Up.anti fun k zz => zz.1)
    · have := c.f k zz
      have := c.g
      omega
    · obtain ⟨i, a, b⟩ := zz
      have := hlt k (r.mw k ⟨i, c.d i a, b⟩)
      omega
    · have s1 := Stp.of c r.mw h7
      refine ⟨s1.e, s1.l, fun k cc a b => ⟨fun zz => ?_, (s1.w k cc a b).2⟩, s1.f⟩
      rcases zz.1.1 with q | q
      · exact a q
      · exact zz.2 q
theorem ss_if {t tq f g q p} (ht : SB own t tq) (hx : (subB xo own && subB io xo) = true) (h1 : SS md io lo xo own own' f q) (h2 : SS md io lo xo own own' g p) : SS md io lo xo own own' (sIf t f g) (uIfS tq q p) := fun W0 L0 W S E e c r =>
  SOk.bindB hx c r (ht W S E e r) fun b S1 e1 r1 c1 l => by
    cases b with
    | true => exact h1 W0 L0 W S1 E e1 c1 r1
    | false => exact h2 W0 L0 W S1 E e1 c1 r1
theorem ss_brk (hs : (subB lo own && subB io lo) = true) : SS md io lo xo own own' sBrk uBrk := fun W0 L0 W S E e c r => by
  obtain ⟨z1, z2⟩ := Bool.and_eq_true_iff.mp hs
  obtain ⟨W', k2, r2, s2⟩ := shrink lo c r (subB_ok z1) (subB_ok z2)
  exact ⟨E, S, W', rfl, k2, r2, s2⟩
theorem ss_cnt (hs : (subB lo own && subB io lo) = true) : SS md io lo xo own own' sCnt uCnt := fun W0 L0 W S E e c r => by
  obtain ⟨z1, z2⟩ := Bool.and_eq_true_iff.mp hs
  obtain ⟨W', k2, r2, s2⟩ := shrink lo c r (subB_ok z1) (subB_ok z2)
  exact ⟨E, S, W', rfl, k2, r2, s2⟩
/-! ## items into slots -/
mutual
def Pat.putU : Pat → U → UV → Option UV
  | .nm i, d, E => some (E.set i (some d))
  | .tp ps, .tup xs, E => if ps.length = xs.length then Pat.putsU ps xs E else none
  | .tp _, _, _ => none
def Pat.putsU : List Pat → List U → UV → Option UV
  | [], [], E => some E
  | p :: ps, d :: ds, E => (match Pat.putU p d E with
    | some E1 => Pat.putsU ps ds E1
    | none => none)
  | _, _, _ => none
end
/-- what putting leaves: the same slots but these -/
structure Near (ws : List Nat) (E E1 : Ev) : Prop where
  len : E1.length = E.length
  ne : ∀ i, i ∉ ws → E1[i]? = E[i]?
theorem Near.refl {ws E} : Near ws E E := ⟨rfl, fun _ _ => rfl⟩
theorem Near.trans {ws E E1 E2} (a : Near ws E E1) (b : Near ws E1 E2) : Near ws E E2 := ⟨b.len.trans a.len, fun i h => (b.ne i h).trans (a.ne i h)⟩
theorem Near.symm {ws E E1} (a : Near ws E E1) : Near ws E1 E := ⟨a.len.symm, fun i h => (a.ne i h).symm⟩
theorem Near.mono {ws ws' E E1} (a : Near ws E E1) (h : ∀ i, i ∈ ws → i ∈ ws') : Near ws' E E1 := ⟨a.len, fun i z => a.ne i fun q => z (h i q)⟩
mutual
theorem put_ok {W S} : ∀ (p : Pat) {d : D} {u : U} {E : Ev} {e e1 : UV}, (∀ i, i ∈ p.slots → i ∉ own) → Rel own W S E e → Rp W S d u → p.putU u e = some e1 → ∃ E1, p.put d E = some E1 ∧ Rel own W S E1 e1 ∧ Near p.slots E E1
  | .nm i, d, u, E, e, e1, hs, r, rp, h => by
    simp only [Pat.putU, Option.some.injEq] at h
    subst h
    refine ⟨_, rfl, r.set (hs i (by simp [Pat.slots])) rp, by simp, fun j hj => set_other fun z => hj (by simp [Pat.slots, z])⟩
  | .tp ps, d, u, E, e, e1, hs, r, rp, h => by
    cases rp with
    | tup rs =>
      simp only [Pat.putU] at h
      split at h
      · rename_i hl
        obtain ⟨E1, h1, h2, h3⟩ := puts_ok ps (fun i hi => hs i (by simpa [Pat.slots] using hi)) r rs h
        exact ⟨E1, by simp only [Pat.put]; rw [if_pos (by rw [hl, rs.len]), h1], h2, by simpa [Pat.slots] using h3⟩
      · cases h
    | _ => simp [Pat.putU] at h
theorem puts_ok {W S} : ∀ (ps : List Pat) {ds : List D} {us : List U} {E : Ev} {e e1 : UV}, (∀ i, i ∈ Pat.slotsL ps → i ∉ own) → Rel own W S E e → Rps W S ds us → Pat.putsU ps us e = some e1 → ∃ E1, Pat.puts ps ds E = some E1 ∧ Rel own W S E1 e1 ∧ Near (Pat.slotsL ps) E E1
  | [], _, _, E, e, e1, hs, r, .nil, h => by
    simp only [Pat.putsU, Option.some.injEq] at h
    subst h
    exact ⟨E, rfl, r, Near.refl⟩
  | [], _, _, E, e, e1, hs, r, .cons _ _, h => by simp [Pat.putsU] at h
  | p :: ps, _, _, E, e, e1, hs, r, .nil, h => by simp [Pat.putsU] at h
  | p :: ps, _, _, E, e, e1, hs, r, .cons (u := u) (us := us) rp rs, h => by
    unfold Pat.putsU at h
    cases h0 : p.putU u e with
    | none => rw [h0] at h; cases h
    | some e2 =>
      rw [h0] at h
      obtain ⟨E2, h1, h2, h3⟩ := put_ok p (fun i hi => hs i (by simp [Pat.slotsL, hi])) r rp h0
      obtain ⟨E3, h4, h5, h6⟩ := puts_ok ps (fun i hi => hs i (by simp [Pat.slotsL, hi])) h2 rs h
      refine ⟨E3, by simp only [Pat.puts, h1, h4], h5, (h3.mono fun i hi => by simp [Pat.slotsL, hi]).trans (h6.mono fun i hi => by simp [Pat.slotsL, hi])⟩
end
def disB (ws own : List Nat) : Bool := ws.all fun i => decide (i ∉ own)
theorem disB_ok {a b : List Nat} (h : disB a b = true) : ∀ i, i ∈ a → i ∉ b := fun i z => of_decide_eq_true (List.all_eq_true.mp h i z)
theorem Ctx.near {W0 L0 W S E E1 ws} (c : Ctx io W0 L0 own W S E) (h : Near ws E E1) (hw : ∀ i, i ∈ ws → i ∉ own) : Ctx io W0 L0 own W S E1 :=
  ⟨c.a, fun j n a b z => c.b j n a b (by rw [h.ne j fun q => hw j q a] at z; exact z), c.d, fun j n a z => c.c j n a (by rw [h.ne j fun q => hw j q (c.d j a)] at z; exact z), c.f, c.g⟩
theorem Stp.near {W0 L0 W S E E1 ws} (c : Ctx io W0 L0 own W S E) (h : Near ws E E1) (hw : ∀ i, i ∈ ws → i ∉ own) : Stp io L0 W S E W S E1 :=
  ⟨fun j hj => h.ne j fun q => hw j q (c.d j hj), Nat.le_refl _, Up.refl, fun _ _ _ => rfl⟩
def uPut (p : Pat) (f : UE) : UF := fun e => (f e).s fun u e1 => match p.putU u e1 with
  | some e2 => .nx e2
  | none => .bad
theorem ss_put {p f q} (h : SE own f q) (hx : (subB xo own && subB io xo) = true) (hd : disB p.slots own = true) : SS md io lo xo own own (sPut p f) (uPut p q) := fun W0 L0 W S E e c r => by
  refine SOk.bind hx c r (h W S E e r) fun a b S1 e1 ra r1 c1 l => ?_
  cases z : p.putU b e1 with
  | none => trivial
  | some e2 =>
    obtain ⟨E1, h1, h2, h3⟩ := put_ok p (disB_ok hd) r1 ra z
    rw [h1]
    exact ⟨E1, S1, W, rfl, c1.near h3 (disB_ok hd), h2, Stp.near c1 h3 (disB_ok hd)⟩
/-! ## what is walked -/
abbrev UI := UV → UQ (List U)
def ResI.q : ResI → DQ (List D × Src)
  | .ok ds src S => .ok (ds, src) S
  | .exc c fs S => .exc c fs S
  | .bad => .bad
theorem ResI.q_ok {r : ResI} {a S} (h : r.q = .ok a S) : r = .ok a.1 a.2 S := by cases r <;> cases h; rfl
theorem ResI.q_exc {r : ResI} {c a S} (h : r.q = .exc c a S) : r = .exc c a S := by cases r <;> cases h; rfl
def RI (W : WP) (S : Sto) (a : List D × Src) (us : List U) : Prop := Rps W S a.1 us ∧ ∀ p, p ∈ a.2 → ¬ W p.1 ∧ S[p.1]? = some (.lst p.2)
def SI (own : List Nat) (f : FI) (q : UI) : Prop := ∀ W S E e, Rel own W S E e → QOk RI own W S E (f E S).q (q e)
theorem RI.up {W S W' S' a us} (h : RI W S a us) (l : Up W S W' S') : RI W' S' a us := ⟨h.1.up l, fun n e => l _ _ (h.2 n e).1 (h.2 n e).2⟩
theorem RI.src {W S a us} (h : RI W S a us) : srcOk a.2 a.1 S := fun p hp => (h.2 p hp).2
def uItems : U → Option (List U)
  | .tup us => some us
  | .fl us => some us
  | .lst us => some us
  | _ => none
def uSq (q : UE) : UI := fun e => (q e).bind fun u e1 => uRet (uItems u) e1
theorem Res.q_bindI (r : Res) (k : D → Sto → ResI) : (r.bindI k).q = r.q.bind fun d S => (k d S).q := by cases r <;> rfl
theorem si_seq {f q} (h : SE own f q) : SI own (iSeq f) (uSq q) := fun W S E e r => by
  unfold iSeq uSq
  rw [Res.q_bindI]
  refine QOk.bind (h W S E e r) fun a b S1 e1 ra r1 l => ?_
  cases ra with
  | tup rs => exact QOk.ret0 (R := RI) ⟨rs, fun n z => by cases z⟩ r1
  | fl rs => exact QOk.ret0 (R := RI) ⟨rs, fun n z => by cases z⟩ r1
  | lst hn hs rs =>
    simp only [itSeq, hs]
    exact QOk.ret0 (R := RI) ⟨rs, fun p z => by simp at z; subst z; exact ⟨hn, hs⟩⟩ r1
  | _ => trivial
def rngU (lo : Int) (n : Nat) : List U := (List.range n).map fun (i : Nat) => U.int (lo + (i : Int))
def uRng (q : UE) : UI := fun e => (q e).bind fun u e1 => match u with
  | .int j => if -(2 ^ 62) ≤ j ∧ j < 2 ^ 62 then .ok (rngU 0 j.toNat) e1 else .bad
  | _ => .bad
theorem rng_rps {W S} {lo : Int} : ∀ l : List Nat, Rps W S (l.map fun (i : Nat) => D.int (lo + (i : Int))) (l.map fun (i : Nat) => U.int (lo + (i : Int)))
  | [] => .nil
  | _ :: l => .cons (.int _) (rng_rps l)
theorem si_rng {f q} (h : SE own f q) : SI own (iRng f) (uRng q) := fun W S E e r => by
  unfold iRng uRng
  rw [Res.q_bindI]
  refine QOk.bind (h W S E e r) fun a b S1 e1 ra r1 l => ?_
  cases ra with
  | int j =>
    simp only [itR1]
    by_cases hz : -(2 ^ 62) ≤ j ∧ j < 2 ^ 62
    · rw [if_pos hz, if_pos hz]
      exact QOk.ret0 (R := RI) ⟨rng_rps _, fun n z => by cases z⟩ r1
    · show QOk RI own W S1 E _ (if -(2 ^ 62) ≤ j ∧ j < 2 ^ 62 then UQ.ok (rngU 0 j.toNat) e1 else .bad)
      rw [if_neg hz, if_neg hz]
      trivial
  | _ => trivial
/-! ## for, while -/
def forU (p : Pat) (b : UF) : List U → UF
  | [], e => .nx e
  | d :: r, e => match p.putU d e with
    | none => .bad
    | some e1 => (match b e1 with
      | .nx e2 => forU p b r e2
      | .cnt e2 => forU p b r e2
      | .brk e2 => .nx e2
      | x => x)
def uFor (it : UI) (p : Pat) (b : UF) : UF := fun e => (it e).s fun us e1 => forU p b us e1
theorem for_ok {p : Pat} {b : FS} {q : UF} {lo' : List Nat} {src : Src} {all : List D} (hd : disB p.slots own = true) (h : SS md io own xo own own b q) : ∀ (rest : List D) (us : List U) (W0 : WP) (L0 : Nat) (W : WP) (S : Sto) (E : Ev) (e : UV), Rps W S rest us → (∃ aus, RI W S (all, src) aus) → Ctx io W0 L0 own W S E → Rel own W S E e →
    SOk md io lo' xo own W0 L0 W S E (forS p b src all rest E S) (forU p q us e)
  | _, _, W0, L0, W, S, E, e, .nil, ⟨aus, hi⟩, c, r => by
    unfold forS forU
    rw [srcIf_ok hi.src]
    exact nx_ok c r
  | d :: rest, u :: us, W0, L0, W, S, E, e, .cons rd rs, ⟨aus, hi⟩, c, r => by
    unfold forS forU
    rw [srcIf_ok hi.src]
    cases z : p.putU u e with
    | none => trivial
    | some e1 =>
      obtain ⟨E1, h1, h2, h3⟩ := put_ok p (disB_ok hd) r rd z
      have s1 := Stp.near c h3 (disB_ok hd)
      have hb := h W0 L0 W S E1 e1 (c.near h3 (disB_ok hd)) h2
      simp only [h1]
      refine SOk.pre s1 ?_
      cases zz : q e1 with
      | nx e2 =>
        rw [zz] at hb
        obtain ⟨E', S', W', k1, k2, k3, k4⟩ := hb
        rw [k1]
        exact SOk.pre k4 (for_ok hd h rest us W0 L0 W' S' E' e2 (rs.up k4.w) ⟨aus, hi.up k4.w⟩ k2 k3)
      | cnt e2 =>
        rw [zz] at hb
        obtain ⟨E', S', W', k1, k2, k3, k4⟩ := hb
        rw [k1]
        exact SOk.pre k4 (for_ok hd h rest us W0 L0 W' S' E' e2 (rs.up k4.w) ⟨aus, hi.up k4.w⟩ k2 k3)
      | brk e2 =>
        rw [zz] at hb
        obtain ⟨E', S', W', k1, k2, k3, k4⟩ := hb
        rw [k1]
        exact ⟨E', S', W', rfl, k2, k3, k4⟩
      | exc cc gs e' => rw [zz] at hb; obtain ⟨fs, E', S', W', h1, h3⟩ := hb; rw [h1]; exact ⟨fs, E', S', W', rfl, h3⟩
      | ret u e' => rw [zz] at hb; obtain ⟨fs, E', S', W', h1, h3⟩ := hb; rw [h1]; exact ⟨fs, E', S', W', rfl, h3⟩
      | bad => trivial
theorem ss_for {it ui p b q} (hi : SI own it ui) (hx : (subB xo own && subB io xo) = true) (hd : disB p.slots own = true) (h : SS md io own xo own own b q) : SS md io lo xo own own (sFor it p b) (uFor ui p q) := fun W0 L0 W S E e c r => by
  have hi := hi W S E e r
  unfold sFor uFor
  cases z : ui e with
  | ok us e' =>
    rw [z] at hi
    obtain ⟨a, S', h1, h2, h3, h4⟩ := hi
    rw [ResI.q_ok h1]
    exact SOk.pre (Stp.of c r.mw h4) (for_ok hd h a.1 us W0 L0 W S' E e' h2.1 ⟨us, h2⟩ (c.frm h4.1) h3)
  | exc cc gs e' =>
    rw [z] at hi
    obtain ⟨a, S', h1, h2, h3, h4⟩ := hi
    rw [ResI.q_exc h1]
    exact exc_ok hx (c.frm h4.1) h3 h2 (Stp.of c r.mw h4)
  | bad => trivial
def whileU (t : UB) (b : UF) : Nat → UF
  | 0, _ => .bad
  | n + 1, e => (t e).s fun c e1 => if c then (match b e1 with
    | .nx e2 => whileU t b n e2
    | .cnt e2 => whileU t b n e2
    | .brk e2 => .nx e2
    | x => x) else .nx e1
noncomputable def uWhile (t : UB) (b : UF) : UF := fun e => open Classical in if h : ∃ n, whileU t b n e ≠ .bad then whileU t b h.choose e else .bad
theorem whileU_more {t : UB} {b : UF} : ∀ (n k : Nat) (e : UV), whileU t b n e ≠ .bad → whileU t b (n + k) e = whileU t b n e
  | 0, _, _, h => absurd rfl h
  | n + 1, k, e, h => by
    rw [Nat.add_right_comm]
    unfold whileU at h ⊢
    cases z : t e with
    | exc c fs S1 => rfl
    | bad => rfl
    | ok c e1 =>
      simp only [z, UQ.s] at h ⊢
      cases c with
      | false => rfl
      | true =>
        simp only [if_true] at h ⊢
        cases zb : b e1 with
        | nx e2 => rw [zb] at h; exact whileU_more n k e2 h
        | cnt e2 => rw [zb] at h; exact whileU_more n k e2 h
        | _ => rfl
theorem uWhile_eq {t : UB} {b : UF} {n : Nat} {e : UV} (h : whileU t b n e ≠ .bad) : uWhile t b e = whileU t b n e := by
  unfold uWhile
  have ex : ∃ n, whileU t b n e ≠ .bad := ⟨n, h⟩
  rw [dif_pos ex]
  have h2 := ex.choose_spec
  rcases Nat.le_total ex.choose n with z | z
  · obtain ⟨k, e1⟩ := Nat.le.dest z
    rw [← whileU_more _ k e h2, e1]
  · obtain ⟨k, e1⟩ := Nat.le.dest z
    have := whileU_more n k e h
    rw [e1] at this
    exact this
theorem while_ok {t b tq q} {lo' : List Nat} (ht : SB own t tq) (hx : (subB xo own && subB io xo) = true) (h : SS md io own xo own own b q) : ∀ (n : Nat) (W0 : WP) (L0 : Nat) (W : WP) (S : Sto) (E : Ev) (e : UV), Ctx io W0 L0 own W S E → Rel own W S E e →
    SOk md io lo' xo own W0 L0 W S E (whileS t b n E S) (whileU tq q n e)
  | 0, W0, L0, W, S, E, e, c, r => trivial
  | n + 1, W0, L0, W, S, E, e, c, r => by
    unfold whileS whileU
    refine SOk.bindB hx c r (ht W S E e r) fun k S1 e1 r1 c1 l => ?_
    cases k with
    | false => exact nx_ok c1 r1
    | true =>
      have hb := h W0 L0 W S1 E e1 c1 r1
      simp only [if_true]
      cases zz : q e1 with
      | nx e2 =>
        rw [zz] at hb
        obtain ⟨E', S', W', k1, k2, k3, k4⟩ := hb
        rw [k1]
        exact SOk.pre k4 (while_ok ht hx h n W0 L0 W' S' E' e2 k2 k3)
      | cnt e2 =>
        rw [zz] at hb
        obtain ⟨E', S', W', k1, k2, k3, k4⟩ := hb
        rw [k1]
        exact SOk.pre k4 (while_ok ht hx h n W0 L0 W' S' E' e2 k2 k3)
      | brk e2 =>
        rw [zz] at hb
        obtain ⟨E', S', W', k1, k2, k3, k4⟩ := hb
        rw [k1]
        exact ⟨E', S', W', rfl, k2, k3, k4⟩
      | exc cc gs e' => rw [zz] at hb; obtain ⟨fs, E', S', W', h1, h3⟩ := hb; rw [h1]; exact ⟨fs, E', S', W', rfl, h3⟩
      | ret u e' => rw [zz] at hb; obtain ⟨fs, E', S', W', h1, h3⟩ := hb; rw [h1]; exact ⟨fs, E', S', W', rfl, h3⟩
      | bad => trivial
theorem SOk.notbad {md io lo xo own' W0 L0 W S E r q} (h : SOk md io lo xo own' W0 L0 W S E r q) (hq : q ≠ .bad) : r ≠ .bad := by
  rintro rfl
  cases q with
  | nx e => obtain ⟨_, _, _, h1, _⟩ := h; cases h1
  | brk e => obtain ⟨_, _, _, h1, _⟩ := h; cases h1
  | cnt e => obtain ⟨_, _, _, h1, _⟩ := h; cases h1
  | exc c gs e => obtain ⟨_, _, _, _, h1, _⟩ := h; cases h1
  | ret u e => obtain ⟨_, _, _, _, h1, _⟩ := h; cases h1
  | bad => exact hq rfl
theorem ss_while {t b tq q} (ht : SB own t tq) (hx : (subB xo own && subB io xo) = true) (h : SS md io own xo own own b q) : SS md io lo xo own own (sWhile t b) (uWhile tq q) := fun W0 L0 W S E e c r => by
  by_cases ex : ∃ n, whileU tq q n e ≠ .bad
  · obtain ⟨n, hn⟩ := ex
    rw [uWhile_eq hn]
    have k := while_ok (lo' := lo) ht hx h n W0 L0 W S E e c r
    rw [sWhile_eq (SOk.notbad k hn)]
    exact k
  · unfold uWhile
    rw [dif_neg ex]
    trivial
end
end Z
namespace Z
open PySem PySem.Spec PyProof.Rows L2
/-! ## comprehensions -/
def wipeU (e : UV) : List Nat → UV
  | [] => e
  | v :: vs => (wipeU e vs).set v none
def restU (e1 e2 : UV) : List Nat → UV
  | [] => e2
  | v :: vs => (restU e1 e2 vs).set v (e1[v]?).join
theorem wipeU_len {e : UV} : ∀ ws : List Nat, (wipeU e ws).length = e.length
  | [] => rfl
  | v :: vs => by simp [wipeU, wipeU_len vs]
theorem restU_len {e e2 : UV} : ∀ ws : List Nat, (restU e e2 ws).length = e2.length
  | [] => rfl
  | v :: vs => by simp [restU, restU_len vs]
theorem wipeU_at {e : UV} {i : Nat} {u : U} : ∀ ws : List Nat, (wipeU e ws)[i]? = some (some u) → i ∉ ws ∧ e[i]? = some (some u)
  | [], h => ⟨by simp, h⟩
  | v :: vs, h => by
    unfold wipeU at h
    by_cases hv : v = i
    · subst hv
      by_cases hl : v < (wipeU e vs).length
      · rw [List.getElem?_set_self hl] at h; cases h
      · rw [List.getElem?_eq_none (by simpa using hl)] at h; cases h
    · rw [set_other hv] at h
      obtain ⟨h1, h2⟩ := wipeU_at vs h
      exact ⟨fun z => (List.mem_cons.mp z).elim (fun q => hv q.symm) h1, h2⟩
theorem restU_at {e e2 : UV} {i : Nat} {u : U} : ∀ ws : List Nat, (restU e e2 ws)[i]? = some (some u) → (i ∈ ws ∧ e[i]? = some (some u)) ∨ (i ∉ ws ∧ e2[i]? = some (some u))
  | [], h => .inr ⟨by simp, h⟩
  | v :: vs, h => by
    unfold restU at h
    by_cases hv : v = i
    · subst hv
      by_cases hl : v < (restU e e2 vs).length
      · rw [List.getElem?_set_self hl] at h
        simp only [Option.some.injEq] at h
        refine .inl ⟨List.mem_cons_self, ?_⟩
        cases z : e[v]? with
        | none => simp [z] at h
        | some w => simp [z] at h; rw [h]
      · rw [List.getElem?_eq_none (by simpa using hl)] at h; cases h
    · rw [set_other hv] at h
      rcases restU_at vs h with ⟨h1, h2⟩ | ⟨h1, h2⟩
      · exact .inl ⟨List.mem_cons_of_mem _ h1, h2⟩
      · exact .inr ⟨fun z => (List.mem_cons.mp z).elim (fun q => hv q.symm) h1, h2⟩
theorem wipeE_near {E : Ev} : ∀ ws : List Nat, Near ws E (wipeE E ws)
  | [] => Near.refl
  | v :: vs => by
    have h := wipeE_near (E := E) vs
    refine ⟨by simp [wipeE, h.len], fun i hi => ?_⟩
    show ((wipeE E vs).set v none)[i]? = _
    rw [set_other fun (z : v = i) => hi (by simp [z])]
    exact h.ne i fun z => hi (List.mem_cons_of_mem _ z)
section
variable {own : List Nat}
theorem Mine.near {E E1 : Ev} {ws : List Nat} (h : Near ws E E1) (hw : ∀ i, i ∈ ws → i ∉ own) {n : Nat} (m : Mine own E1 n) : Mine own E n := by
  obtain ⟨i, a, z⟩ := m
  exact ⟨i, a, by rw [← h.ne i fun q => hw i q a]; exact z⟩
/-- the slots' own values forgotten -/
theorem Rel.wipe {W S E E1 e ws} (r : Rel own W S E1 e) (h : Near ws E E1) (hw : ∀ i, i ∈ ws → i ∉ own) : Rel own W S E (wipeU e ws) := by
  refine ⟨r.wf, by rw [wipeU_len, ← r.len, h.len], fun i u a b => ?_, fun i u a b => ?_, fun n m => r.mw n (Mine.near h.symm hw m), fun i j n a b => ?_⟩
  · obtain ⟨h1, h2⟩ := wipeU_at ws a
    obtain ⟨d, h3, h4⟩ := r.val i u h2 b
    exact ⟨d, by rw [← h.ne i h1]; exact h3, h4⟩
  · obtain ⟨h1, h2⟩ := wipeU_at ws a
    obtain ⟨n, ds, us, h3, h4, h5⟩ := r.ow i u h2 b
    exact ⟨n, ds, us, h3, by rw [← h.ne i h1]; exact h4, h5⟩
  · rw [← h.ne i fun q => hw i q a, ← h.ne j fun q => hw j q b]
    exact r.inj i j n a b
theorem Rel.rest {W S E E1 e e0 ws} (r : Rel own W S E1 e) (h : Near ws E E1) (hw : ∀ i, i ∈ ws → i ∉ own) (hv : ∀ i u, i ∈ ws → e0[i]? = some (some u) → ∃ d, E[i]? = some (some d) ∧ Rp W S d u) : Rel own W S E (restU e0 e ws) := by
  refine ⟨r.wf, by rw [restU_len, ← r.len, h.len], fun i u a b => ?_, fun i u a b => ?_, fun n m => r.mw n (Mine.near h.symm hw m), fun i j n a b => ?_⟩
  · rcases restU_at ws a with ⟨h1, h2⟩ | ⟨h1, h2⟩
    · exact hv i u h1 h2
    · obtain ⟨d, h3, h4⟩ := r.val i u h2 b
      exact ⟨d, by rw [← h.ne i h1]; exact h3, h4⟩
  · rcases restU_at ws a with ⟨h1, h2⟩ | ⟨h1, h2⟩
    · exact absurd b (hw i h1)
    · obtain ⟨n, ds, us, h3, h4, h5⟩ := r.ow i u h2 b
      exact ⟨n, ds, us, h3, by rw [← h.ne i h1]; exact h4, h5⟩
  · rw [← h.ne i fun q => hw i q a, ← h.ne j fun q => hw j q b]
    exact r.inj i j n a b
/-- an owned cell, no slot's here, is written -/
theorem Rel.cell {W S E e n c} (r : Rel own W S E e) (hn : W n) (hm : ¬ Mine own E n) : Rel own W (S.set n c) E e := by
  refine r.up (fun m c' h1 h2 => ⟨h1, by rw [set_other fun (z : n = m) => h1 (z ▸ hn)]; exact h2⟩) (fun _ z => z) (fun m z => by simpa using r.wf m z) fun m z => set_other fun q => hm (q ▸ z)
theorem Up.cell {W : WP} {S : Sto} {n : Nat} {c : Cell} (hn : W n) : Up W S W (S.set n c) := fun m c' h1 h2 => ⟨h1, by rw [set_other fun (z : n = m) => h1 (z ▸ hn)]; exact h2⟩
def lcU (p : Pat) (t : UB) (el : UE) (ws : List Nat) : List U → UV → List U → Option (List U × UV)
  | [], e, acc => some (acc, e)
  | d :: r, e, acc => match p.putU d e with
    | none => none
    | some e1 => (match t e1 with
      | .ok true e2 => (match el e2 with
        | .ok y e3 => if acc.length < 100000 then lcU p t el ws r (wipeU e3 ws) (acc ++ [y]) else none
        | _ => none)
      | .ok false e2 => lcU p t el ws r (wipeU e2 ws) acc
      | _ => none)
def uLc (it : UI) (p : Pat) (ws : List Nat) (t : UB) (el : UE) : UE := fun e => (it e).bind fun us e1 => match lcU p t el ws us (wipeU e1 ws) [] with
  | some (vs, e2) => .ok (.lst vs) (restU e1 e2 ws)
  | none => .bad
theorem lc_ok {p : Pat} {t : FB} {tq : UB} {el : FE} {q : UE} {ws : List Nat} {src : Src} {all : List D} {n : Nat} {W : WP} {E0 : Ev} (hp : subB p.slots ws = true) (hd : disB ws own = true) (ht : SB own t tq) (hq : SE own el q) (hn : W n) (hm : ¬ Mine own E0 n) :
    ∀ (rest : List D) (us : List U) (S : Sto) (e : UV) (acc : List D) (au : List U) (vs : List U) (e' : UV), Rps W S rest us → (∃ aus, RI W S (all, src) aus) → Rel own W S E0 e → S[n]? = some (.lst acc) → Rps W S acc au → lcU p tq q ws us e au = some (vs, e') →
      ∃ ds S', lcS p t el src all n E0 rest S = .ok (.ref n) S' ∧ S'[n]? = some (.lst ds) ∧ Rps W S' ds vs ∧ Rel own W S' E0 e' ∧ Frm (fun m => Mine own E0 m ∨ m = n) S S'
  | _, _, S, e, acc, au, vs, e', .nil, ⟨aus, hi⟩, r, hs, ra, h => by
    unfold lcU at h
    cases h
    unfold lcS
    rw [srcIf_ok hi.src]
    exact ⟨acc, S, rfl, hs, ra, r, Frm.refl⟩
  | d :: rest, u :: us, S, e, acc, au, vs, e', .cons rd rs, ⟨aus, hi⟩, r, hs, ra, h => by
    unfold lcU at h
    unfold lcS
    rw [srcIf_ok hi.src]
    have hws := disB_ok hd
    have hps : ∀ i, i ∈ p.slots → i ∉ own := fun i hi => hws i (subB_ok hp i hi)
    cases z : p.putU u e with
    | none => rw [z] at h; cases h
    | some e1 =>
      rw [z] at h
      obtain ⟨E1, h1, h2, h3⟩ := put_ok p hps r rd z
      have h3' : Near ws E0 E1 := h3.mono (subB_ok hp)
      simp only [h1]
      have hm1 : ¬ Mine own E1 n := fun zz => hm (Mine.near h3' hws zz)
      have q1 := ht W S E1 e1 h2
      dsimp only at h
      cases zt : tq e1 with
      | bad => rw [zt] at h; cases h
      | exc c gs e2 => rw [zt] at h; cases h
      | ok b e2 =>
        rw [zt] at h q1
        obtain ⟨b', S2, k1, k2, k3, k4⟩ := q1
        cases k2
        rw [ResB.q_ok k1]
        have l2 : Up W S W S2 := Up.frm k3.mw k4
        have hs2 : S2[n]? = some (.lst acc) := by rw [k4.2 n (lt_at hs) hm1]; exact hs
        cases b with
        | false =>
          dsimp only at h ⊢
          obtain ⟨ds, S', m1, m2, m3, m4, m5⟩ := lc_ok hp hd ht hq hn hm rest us S2 (wipeU e2 ws) acc au vs e' (rs.up l2) ⟨aus, hi.up l2⟩ (k3.wipe h3' hws) hs2 (ra.up l2) h
          exact ⟨ds, S', m1, m2, m3, m4, (k4.mono fun m zz => .inl (Mine.near h3' hws zz)).trans m5⟩
        | true =>
          dsimp only at h ⊢
          have q2 := hq W S2 E1 e2 k3
          cases zq : q e2 with
          | bad => rw [zq] at h; cases h
          | exc c gs e2 => rw [zq] at h; cases h
          | ok y e3 =>
            rw [zq] at h q2
            obtain ⟨dy, S3, j1, j2, j3, j4⟩ := q2
            rw [Res.q_ok j1]
            dsimp only at h ⊢
            have l3 : Up W S2 W S3 := Up.frm j3.mw j4
            have hs3 : S3[n]? = some (.lst acc) := by rw [j4.2 n (lt_at hs2) hm1]; exact hs2
            rw [hs3]
            dsimp only
            have ll := (ra.up l2).up l3
            split at h
            · rename_i hz
              rw [if_pos (by rw [ll.len]; exact hz)]
              have lc : Up W S3 W (S3.set n (.lst (acc ++ [dy]))) := Up.cell hn
              obtain ⟨ds, S', m1, m2, m3, m4, m5⟩ := lc_ok hp hd ht hq hn hm rest us (S3.set n (.lst (acc ++ [dy]))) (wipeU e3 ws) (acc ++ [dy]) (au ++ [y]) vs e' (((rs.up l2).up l3).up lc) ⟨aus, ((hi.up l2).up l3).up lc⟩ ((j3.cell hn hm1).wipe h3' hws)
                (List.getElem?_set_self (lt_at hs3)) ((ll.app (.cons j2 .nil)).up lc) h
              refine ⟨ds, S', m1, m2, m3, m4, ((k4.trans j4).mono fun m zz => .inl (Mine.near h3' hws zz)).trans (Frm.trans ⟨by simp, fun m h1 h2 => ?_⟩ m5)⟩
              exact set_other fun (zz : n = m) => h2 (.inr zz.symm)
            · cases h
theorem sf_lc {it ui p ws t tq el q} (hi : SI own it ui) (ht : SB own t tq) (hq : SE own el q) (hp : subB p.slots ws = true) (hd : disB ws own = true) : SF own (vLc it p ws t el) (uLc ui p ws tq q) := fun W S E e r => by
  have h := hi W S E e r
  unfold vLc uLc
  cases z : ui e with
  | bad => trivial
  | exc c gs e1 =>
    rw [z] at h
    obtain ⟨a, S', h1, h2, h3, h4⟩ := h
    rw [ResI.q_exc h1]
    exact ⟨a, S', rfl, h2, h3, h4⟩
  | ok us e1 =>
    rw [z] at h
    obtain ⟨⟨ds, src⟩, S1, h1, h2, h3, h4⟩ := h
    rw [ResI.q_ok h1]
    simp only [UQ.bind]
    have hws := disB_ok hd
    have nr := wipeE_near (E := E) ws
    cases zl : lcU p tq q ws us (wipeU e1 ws) [] with
    | none => trivial
    | some o =>
      obtain ⟨vs, e2⟩ := o
      have hm : ¬ Mine own (wipeE E ws) S1.length := fun m => Nat.lt_irrefl _ (h3.wf _ (h3.mw _ (Mine.near nr hws m)))
      obtain ⟨xs, S', m1, m2, m3, m4, m5⟩ := lc_ok (W := fun k => W k ∨ k = S1.length) (E0 := wipeE E ws) (n := S1.length) hp hd ht hq (.inr rfl) hm ds us (S1 ++ [.lst []]) (wipeU e1 ws) [] [] vs e2 (h2.1.up Up.more) ⟨us, h2.up Up.more⟩ ((h3.more _).wipe nr.symm hws) (by simp) .nil zl
      have f1 : Frm (Mine own E) S1 S' := by
        refine ⟨Nat.le_trans (by simp) m5.1, fun m a b => ?_⟩
        rw [m5.2 m (by simp; omega) fun zz => zz.elim (fun zz => b (Mine.near nr hws zz)) fun zz => by omega]
        exact List.getElem?_append_left a
      refine ⟨S1.length, xs, vs, S', m1, rfl, h4.1, m2, m3, ?_, h4.trans f1⟩
      refine m4.rest (e0 := e1) nr hws fun i u a b => ?_
      obtain ⟨d, k1, k2⟩ := h3.val i u b (hws i a)
      refine ⟨d, k1, k2.up fun m c a b => ⟨fun zz => zz.elim a fun zz => by have := lt_at b; omega, ?_⟩⟩
      rw [f1.2 m (lt_at b) fun zz => a (h3.mw m zz)]
      exact b
/-- a new list as a value -/
theorem se_f {f q} (h : SF own f q) : SE own f q := fun W S E e r => by
  have h := h W S E e r
  cases z : q e with
  | bad => trivial
  | exc c gs e1 =>
    rw [z] at h
    obtain ⟨a, S', h1, h2, h3, h4⟩ := h
    exact ⟨a, S', by rw [h1]; rfl, h2, h3, h4⟩
  | ok u e1 =>
    rw [z] at h
    obtain ⟨n, ds, us, S', h1, rfl, h3, h4, h5, h6, h7⟩ := h
    refine ⟨.ref n, S', by rw [h1]; rfl, .lst (fun zz => ?_) h4 (h5.up (Up.anti fun m z => .inl z)), h6.anti (fun m z => .inl z) fun m zz => r.mw m zz, h7⟩
    have := r.wf n zz
    omega
/-! ## calls of the program's own functions -/
inductive Arg where
  | io (i : Nat) | val (q : UE) | fresh (q : UE)
inductive AK where
  | io (i : Nat) | val | fresh
  deriving DecidableEq
def Arg.kind : Arg → AK
  | .io i => .io i
  | .val _ => .val
  | .fresh _ => .fresh
def uArgs : List Arg → UV → UQ (List (Option U))
  | [], e => .ok [] e
  | .io i :: r, e => (match (e[i]?).join with
    | some _ => (uArgs r e).bind fun l e2 => .ok (none :: l) e2
    | none => .bad)
  | .val q :: r, e => (q e).bind fun u e1 => (uArgs r e1).bind fun l e2 => .ok (some u :: l) e2
  | .fresh q :: r, e => (q e).bind fun u e1 => (uArgs r e1).bind fun l e2 => .ok (some u :: l) e2
def Arg.get : Arg → Option U → UV → Option U
  | .io i, _, e => (e[i]?).join
  | _, o, _ => o
def fill : List Arg → List (Option U) → UV → Option (List U)
  | [], [], _ => some []
  | a :: as, o :: os, e => (match a.get o e, fill as os e with
    | some u, some us => some (u :: us)
    | _, _ => none)
  | _, _, _ => none
def wbk : List (Nat × Nat) → UV → UV → UV
  | [], _, e => e
  | (j, i) :: r, ep, e => (wbk r ep e).set i (ep[j]?).join
def uCall (idx : List Nat) (dfl : List U) (as : List Arg) (wb : List (Nat × Nat)) (G : List U → UQ U) : UE := fun e => (uArgs as e).bind fun l e1 => match fill as l e1 with
  | some us => (match G (pick idx (us ++ dfl)) with
    | .ok u ep => .ok u (wbk wb ep e1)
    | .exc c gs ep => .exc c gs (wbk wb ep e1)
    | .bad => .bad)
  | none => .bad
/-- what the lists of a function's own parameters are behind a call -/
def Back (io : List Nat) (W : WP) (S : Sto) (ds : List D) (e : UV) : Prop := ∀ j, j ∈ io → ∀ u, (e[j]?).join = some u → ∃ n fs us, u = .lst us ∧ ds[j]? = some (.ref n) ∧ S[n]? = some (.lst fs) ∧ Rps W S fs us
def CallOk (io : List Nat) (W : WP) (S : Sto) (ds : List D) (r : Res) (q : UQ U) : Prop := match q with
  | .ok u e => ∃ d S', r = .ok d S' ∧ Rp W S' d u ∧ Back io W S' ds e ∧ Frm (Mine io (ds.map some)) S S'
  | .exc c gs e => ∃ fs S', r = .exc c fs S' ∧ Rpf W S' fs gs ∧ Back io W S' ds e ∧ Frm (Mine io (ds.map some)) S S'
  | .bad => True
def SFn (io : List Nat) (F : List D → Sto → Res) (G : List U → UQ U) : Prop := ∀ W S ds us, Rel io W S (ds.map some) (us.map some) → CallOk io W S ds (F ds S) (G us)
def ARo (own : List Nat) (W : WP) (S : Sto) (E : Ev) (L : Nat) : Arg → D → Option U → Prop
  | .io i, d, o => o = none ∧ i ∈ own ∧ E[i]? = some (some d)
  | .val _, d, o => ∃ u, o = some u ∧ Rp W S d u
  | .fresh _, d, o => ∃ n fs us, o = some (.lst us) ∧ d = .ref n ∧ L ≤ n ∧ W n ∧ S[n]? = some (.lst fs) ∧ Rps W S fs us
/-- with the place of the next new cell -/
inductive AR (own : List Nat) (W : WP) (S : Sto) (E : Ev) : Nat → List Arg → List D → List (Option U) → Prop where
  | nil {L} : AR own W S E L [] [] []
  | cons {L L' a as d ds o os} : ARo own W S E L a d o → L ≤ L' → (∀ q, a = .fresh q → ∀ n, d = .ref n → n < L') → AR own W S E L' as ds os → AR own W S E L (a :: as) (d :: ds) (o :: os)
theorem ARo.up {W S E L W' S' a d o} (h : ARo own W S E L a d o) (l : Up W S W' S') (hw : ∀ n, W n → W' n) (hc : ∀ n, L ≤ n → n < S.length → S'[n]? = S[n]?) : ARo own W' S' E L a d o := by
  cases a with
  | io i => exact h
  | val q => obtain ⟨u, h1, h2⟩ := h; exact ⟨u, h1, h2.up l⟩
  | fresh q => obtain ⟨n, fs, us, h1, h2, h3, h4, h5, h6⟩ := h; exact ⟨n, fs, us, h1, h2, h3, hw n h4, by rw [hc n h3 (lt_at h5)]; exact h5, h6.up l⟩
/-- arguments one by one -/
def SA (own : List Nat) (l : FL) (as : List Arg) : Prop := ∀ W S E e, Rel own W S E e → match uArgs as e with
  | .ok os e' => ∃ ds W' S', l E S = .ok ds S' ∧ AR own W' S' E S.length as ds os ∧ Rel own W' S' E e' ∧ Frm (Mine own E) S S' ∧ (∀ n, W n → W' n) ∧ (∀ n, W' n → W n ∨ S.length ≤ n)
  | .exc c gs e' => ∃ fs S', l E S = .exc c fs S' ∧ Rpf W S' fs gs ∧ Rel own W S' E e' ∧ Frm (Mine own E) S S'
  | .bad => True
def AOk (own : List Nat) (W : WP) (S : Sto) (E : Ev) (r : ResL) (as : List Arg) (q : UQ (List (Option U))) : Prop := match q with
  | .ok os e' => ∃ ds W' S', r = .ok ds S' ∧ AR own W' S' E S.length as ds os ∧ Rel own W' S' E e' ∧ Frm (Mine own E) S S' ∧ (∀ n, W n → W' n) ∧ (∀ n, W' n → W n ∨ S.length ≤ n)
  | .exc c gs e' => ∃ fs S', r = .exc c fs S' ∧ Rpf W S' fs gs ∧ Rel own W S' E e' ∧ Frm (Mine own E) S S'
  | .bad => True
theorem SA.to {l as} (h : ∀ W S E e, Rel own W S E e → AOk own W S E (l E S) as (uArgs as e)) : SA own l as := fun W S E e r => h W S E e r
theorem sa_nil : SA own lNil [] := fun W S E e r => ⟨[], W, S, rfl, .nil, r, Frm.refl, fun _ z => z, fun _ z => .inl z⟩
/-- an argument, then the others -/
theorem AOk.cons {W S E a as d o W1 S1 e1 l fr} (ha : ARo own W1 S1 E S.length a d o) (hlt : ∀ q, a = .fresh q → ∀ n, d = .ref n → n < S1.length) (r1 : Rel own W1 S1 E e1) (f1 : Frm (Mine own E) S S1) (w1 : ∀ n, W n → W1 n) (w2 : ∀ n, W1 n → W n ∨ S.length ≤ n) (hm : ∀ n, Mine own E n → n < S.length)
    (hfr : fr = ResL.bindL (l E S1) fun xs S2 => .ok (d :: xs) S2) (h : SA own l as) (mw : ∀ n, Mine own E n → W n) (rw0 : ∀ n, W n → n < S.length) : AOk own W S E fr (a :: as) ((uArgs as e1).bind fun l e2 => .ok (o :: l) e2) := by
  have h2 := h W1 S1 E e1 r1
  subst hfr
  cases z : uArgs as e1 with
  | bad => trivial
  | exc c gs e' =>
    rw [z] at h2
    obtain ⟨fs, S', k1, k2, k3, k4⟩ := h2
    exact ⟨fs, S', by rw [k1]; rfl, k2.up (Up.anti w1), k3.anti w1 mw, f1.trans k4⟩
  | ok os e' =>
    rw [z] at h2
    obtain ⟨ds, W', S', k1, k2, k3, k4, k5, k6⟩ := h2
    refine ⟨d :: ds, W', S', by rw [k1]; rfl, .cons (ha.up (fun n c p q => ⟨fun zz => (k6 n zz).elim p fun zz => by have := lt_at q; omega, ?_⟩) k5 fun n p q => ?_) f1.1 hlt k2, k3, f1.trans k4, fun n zz => k5 n (w1 n zz), fun n zz => (k6 n zz).elim (w2 n) fun zz => .inr (Nat.le_trans f1.1 zz)⟩
    · rw [k4.2 n (lt_at q) fun zz => p (r1.mw n zz)]
      exact q
    · exact k4.2 n q fun zz => absurd (hm n zz) (Nat.not_lt.mpr p)
theorem sa_io {i : Nat} {l as} (h : SA own l as) (hi : decide (i ∈ own) = true) : SA own (lCons (vV i) l) (.io i :: as) := SA.to fun W S E e r => by
  have hi := of_decide_eq_true hi
  unfold uArgs
  cases z : (e[i]?).join with
  | none => trivial
  | some u =>
    have z' : e[i]? = some (some u) := by
      cases zz : e[i]? with
      | none => simp [zz] at z
      | some v => simp [zz] at z; rw [z]
    obtain ⟨n, ds, us, h1, h2, h3, h4⟩ := r.ow i u z' hi
    refine AOk.cons (W1 := W) (S1 := S) (d := .ref n) ⟨rfl, hi, h2⟩ (fun q zz => by cases zz) r Frm.refl (fun _ z => z) (fun _ z => .inl z) (fun m zz => r.wf m (r.mw m zz)) ?_ h r.mw r.wf
    simp [lCons, vV, h2, Res.bindL]
theorem sa_val {f q l as} (hf : SE own f q) (h : SA own l as) : SA own (lCons f l) (.val q :: as) := SA.to fun W S E e r => by
  have h1 := hf W S E e r
  unfold uArgs
  cases z : q e with
  | bad => trivial
  | exc c gs e' =>
    rw [z] at h1
    obtain ⟨fs, S', k1, k2, k3, k4⟩ := h1
    exact ⟨fs, S', by simp [lCons, Res.q_exc k1, Res.bindL], k2, k3, k4⟩
  | ok u e' =>
    rw [z] at h1
    obtain ⟨d, S', k1, k2, k3, k4⟩ := h1
    refine AOk.cons (W1 := W) (S1 := S') (d := d) ⟨u, rfl, k2⟩ (fun q zz => by cases zz) k3 k4 (fun _ z => z) (fun _ z => .inl z) (fun m zz => r.wf m (r.mw m zz)) ?_ h r.mw r.wf
    simp [lCons, Res.q_ok k1, Res.bindL]
theorem sa_fresh {f q l as} (hf : SF own f q) (h : SA own l as) : SA own (lCons f l) (.fresh q :: as) := SA.to fun W S E e r => by
  have h1 := hf W S E e r
  unfold uArgs
  cases z : q e with
  | bad => trivial
  | exc c gs e' =>
    rw [z] at h1
    obtain ⟨fs, S', k1, k2, k3, k4⟩ := h1
    exact ⟨fs, S', by simp [lCons, k1, Res.bindL], k2, k3, k4⟩
  | ok u e' =>
    rw [z] at h1
    obtain ⟨n, ds, us, S', k1, rfl, k3, k4, k5, k6, k7⟩ := h1
    refine AOk.cons (W1 := fun k => W k ∨ k = n) (S1 := S') (d := .ref n) ⟨n, ds, us, rfl, rfl, k3, .inr rfl, k4, k5⟩ (fun q zz m hm => by cases hm; exact lt_at k4) k6 k7 (fun _ z => .inl z) (fun _ z => z.elim .inl fun z => .inr (z ▸ k3)) (fun m zz => r.wf m (r.mw m zz)) ?_ h r.mw r.wf
    simp [lCons, k1, Res.bindL]
end
end Z
namespace Z
open PySem PySem.Spec PyProof.Rows L2
section
variable {own : List Nat}
theorem AR.len {W S E} : ∀ {L as ds os}, AR own W S E L as ds os → as.length = ds.length ∧ as.length = os.length
  | _, _, _, _, .nil => ⟨rfl, rfl⟩
  | _, _, _, _, .cons _ _ _ t => ⟨by simp [t.len.1], by simp [t.len.2]⟩
theorem ARo.le {W S E L L' a d o} (h : ARo own W S E L' a d o) (l : L ≤ L') : ARo own W S E L a d o := by
  cases a with
  | io i => exact h
  | val q => exact h
  | fresh q => obtain ⟨n, fs, us, h1, h2, h3, h4⟩ := h; exact ⟨n, fs, us, h1, h2, Nat.le_trans l h3, h4⟩
theorem AR.at {W S E} : ∀ {L as ds os}, AR own W S E L as ds os → ∀ (p : Nat) a, as[p]? = some a → ∃ d o, ds[p]? = some d ∧ os[p]? = some o ∧ ARo own W S E L a d o
  | _, _, _, _, .nil, p, a, h => by simp at h
  | _, _, _, _, .cons h1 h2 h3 t, 0, a, h => by simp at h; subst h; exact ⟨_, _, rfl, rfl, h1⟩
  | _, _, _, _, .cons h1 h2 h3 t, p + 1, a, h => by
    obtain ⟨d, o, e1, e2, e3⟩ := t.at p a (by simpa using h)
    exact ⟨d, o, by simpa using e1, by simpa using e2, e3.le h2⟩
/-- two new cells at unlike places are unlike -/
theorem AR.two {W S E} : ∀ {L as ds os}, AR own W S E L as ds os → ∀ (p p' : Nat) q q' n, as[p]? = some (.fresh q) → as[p']? = some (.fresh q') → ds[p]? = some (.ref n) → ds[p']? = some (.ref n) → p = p'
  | _, _, _, _, .nil, p, p', q, q', n, h, _, _, _ => by simp at h
  | _, _, _, _, .cons h1 h2 h3 t, 0, 0, q, q', n, a, b, c, d => rfl
  | _, _, _, _, .cons h1 h2 h3 t, p + 1, p' + 1, q, q', n, a, b, c, d => by rw [t.two p p' q q' n (by simpa using a) (by simpa using b) (by simpa using c) (by simpa using d)]
  | _, _, _, _, .cons h1 h2 h3 t, 0, p' + 1, q, q', n, a, b, c, d => by
    have lt := h3 q (by simpa using a) n (by simpa using c)
    obtain ⟨d', o', e1, e2, m, fs, us, f1, f2, f3, f4⟩ := t.at p' _ (by simpa using b)
    rw [List.getElem?_cons_succ] at d
    rw [d] at e1
    cases e1
    cases f2
    omega
  | _, _, _, _, .cons h1 h2 h3 t, p + 1, 0, q, q', n, a, b, c, d => by
    have lt := h3 q' (by simpa using b) n (by simpa using d)
    obtain ⟨d', o', e1, e2, m, fs, us, f1, f2, f3, f4⟩ := t.at p _ (by simpa using a)
    rw [List.getElem?_cons_succ] at c
    rw [c] at e1
    cases e1
    cases f2
    omega
theorem fill_at : ∀ {as : List Arg} {os : List (Option U)} {e : UV} {us : List U}, fill as os e = some us → us.length = as.length ∧ ∀ (p : Nat) a o, as[p]? = some a → os[p]? = some o → ∃ u, us[p]? = some u ∧ a.get o e = some u
  | [], [], e, us, h => by
    simp [fill] at h
    subst h
    exact ⟨rfl, fun p a o h => by simp at h⟩
  | [], _ :: _, e, us, h => by simp [fill] at h
  | _ :: _, [], e, us, h => by simp [fill] at h
  | a :: as, o :: os, e, us, h => by
    unfold fill at h
    cases h1 : a.get o e with
    | none => simp [h1] at h
    | some u =>
      cases h2 : fill as os e with
      | none => simp [h1, h2] at h
      | some vs =>
        simp [h1, h2] at h
        subst h
        obtain ⟨e1, e2⟩ := fill_at h2
        refine ⟨by simp [e1], fun p => ?_⟩
        cases p with
        | zero => intro a' o' ha ho; simp at ha ho; subst ha; subst ho; exact ⟨u, rfl, h1⟩
        | succ p => intro a' o' ha ho; simpa using e2 p a' o' (by simpa using ha) (by simpa using ho)
/-- how a call hands on its arguments: which of them a parameter shares with a slot -/
def chk (io idx : List Nat) (ks : List AK) (wb : List (Nat × Nat)) (m : Nat) : Bool :=
  ((List.range idx.length).all fun j => decide (j < idx.length) && (if j ∈ io then (match ks[idx.getD j 0]? with
      | some (.io i) => decide ((j, i) ∈ wb)
      | some .fresh => true
      | _ => false) else (match ks[idx.getD j 0]? with
      | some .val => true
      | some _ => false
      | none => decide (idx.getD j 0 < m)))) &&
  (wb.all fun p => decide (p.1 ∈ io) && decide (p.1 < idx.length) && decide (ks[idx.getD p.1 0]? = some (.io p.2))) &&
  decide ((wb.map (·.2)).Nodup) && decide (idx.Nodup) && io.all fun j => decide (j < idx.length)
theorem pick_at {α : Type} : ∀ (idx : List Nat) (l : List α), (∀ i, i ∈ idx → i < l.length) → (pick idx l).length = idx.length ∧ ∀ (j : Nat), j < idx.length → (pick idx l)[j]? = l[idx.getD j 0]?
  | [], l, h => ⟨rfl, fun j hj => by simp at hj⟩
  | i :: r, l, h => by
    obtain ⟨h1, h2⟩ := pick_at r l fun i hi => h i (List.mem_cons_of_mem _ hi)
    have hl := h i List.mem_cons_self
    have e : pick (i :: r) l = l[i] :: pick r l := by simp [pick, List.getElem?_eq_getElem hl]
    rw [e]
    refine ⟨by simp [h1], fun j hj => ?_⟩
    cases j with
    | zero => simp [List.getElem?_eq_getElem hl]
    | succ j =>
      simp only [List.getElem?_cons_succ]
      rw [h2 j (by simpa using hj)]
      simp
theorem wbk_len {ep e : UV} : ∀ wb : List (Nat × Nat), (wbk wb ep e).length = e.length
  | [] => rfl
  | (j, i) :: r => by simp [wbk, wbk_len r]
theorem wbk_at {ep e : UV} {k : Nat} {u : U} : ∀ wb : List (Nat × Nat), (wb.map (·.2)).Nodup → (wbk wb ep e)[k]? = some (some u) → (∃ j, (j, k) ∈ wb ∧ (ep[j]?).join = some u) ∨ ((∀ j, (j, k) ∉ wb) ∧ e[k]? = some (some u))
  | [], _, h => .inr ⟨fun j => by simp, h⟩
  | (j, i) :: r, nd, h => by
    unfold wbk at h
    have nd2 := List.nodup_cons.mp nd
    by_cases hk : i = k
    · subst hk
      by_cases hl : i < (wbk r ep e).length
      · rw [List.getElem?_set_self hl] at h
        simp only [Option.some.injEq] at h
        exact .inl ⟨j, List.mem_cons_self, h⟩
      · rw [List.getElem?_eq_none (by simpa using hl)] at h; cases h
    · rw [set_other hk] at h
      rcases wbk_at r nd2.2 h with ⟨j', h1, h2⟩ | ⟨h1, h2⟩
      · exact .inl ⟨j', List.mem_cons_of_mem _ h1, h2⟩
      · refine .inr ⟨fun j' z => ?_, h2⟩
        rcases List.mem_cons.mp z with z | z
        · cases z; exact hk rfl
        · exact h1 j' z
theorem Rps.at2 {W S} {ds : List D} {vs : List U} {i : Nat} {d : D} {u : U} (h : Rps W S ds vs) (h1 : ds[i]? = some d) (h2 : vs[i]? = some u) : Rp W S d u := by
  obtain ⟨d', e, r⟩ := h.at h2
  rw [h1] at e
  cases e
  exact r
theorem join_some {e : UV} {i : Nat} {u : U} (z : (e[i]?).join = some u) : e[i]? = some (some u) := by
  cases zz : e[i]? with
  | none => simp [zz] at z
  | some v => simp [zz] at z; rw [z]
theorem kinds_at {as : List Arg} {ks : List AK} (h : as.map Arg.kind = ks) {p : Nat} {k : AK} (hk : ks[p]? = some k) : ∃ a, as[p]? = some a ∧ a.kind = k := by
  subst h
  rw [List.getElem?_map] at hk
  cases z : as[p]? with
  | none => simp [z] at hk
  | some a => simp [z] at hk; exact ⟨a, rfl, hk⟩
theorem lt_at' {α : Type} {l : List α} {n : Nat} {c : α} (h : l[n]? = some c) : n < l.length := (List.getElem?_eq_some_iff.mp h).1
theorem nodup_snd : ∀ {wb : List (Nat × Nat)} {j j' i : Nat}, (wb.map (·.2)).Nodup → (j, i) ∈ wb → (j', i) ∈ wb → j = j'
  | [], _, _, _, _, h, _ => by simp at h
  | (a, b) :: r, j, j', i, nd, h1, h2 => by
    have nd2 := List.nodup_cons.mp nd
    rcases List.mem_cons.mp h1 with z1 | z1
    · cases z1
      rcases List.mem_cons.mp h2 with z2 | z2
      · cases z2; rfl
      · exact absurd (List.mem_map.mpr ⟨_, z2, rfl⟩) nd2.1
    · rcases List.mem_cons.mp h2 with z2 | z2
      · cases z2
        exact absurd (List.mem_map.mpr ⟨_, z1, rfl⟩) nd2.1
      · exact nodup_snd nd2.2 z1 z2
theorem nodup_inj {l : List Nat} (h : l.Nodup) {i j : Nat} (hi : i < l.length) (hj : j < l.length) (e : l[i] = l[j]) : i = j := by
  have := List.pairwise_iff_getElem.mp h
  rcases Nat.lt_trichotomy i j with q | q | q
  · exact absurd e (this i j hi hj q)
  · exact q
  · exact absurd e.symm (this j i hj hi q)
/-- the result is a new list -/
def CallOkF (io : List Nat) (W : WP) (S : Sto) (ds : List D) (r : Res) (q : UQ U) : Prop := match q with
  | .ok u e => ∃ n fs us S', r = .ok (.ref n) S' ∧ u = .lst us ∧ S.length ≤ n ∧ S'[n]? = some (.lst fs) ∧ Rps (fun k => W k ∨ k = n) S' fs us ∧ Back io (fun k => W k ∨ k = n) S' ds e ∧ Frm (Mine io (ds.map some)) S S' ∧ Wf (fun k => W k ∨ k = n) S'
  | .exc c gs e => ∃ fs S', r = .exc c fs S' ∧ Rpf W S' fs gs ∧ Back io W S' ds e ∧ Frm (Mine io (ds.map some)) S S'
  | .bad => True
def SFnF (io : List Nat) (F : List D → Sto → Res) (G : List U → UQ U) : Prop := ∀ W S ds us, Rel io W S (ds.map some) (us.map some) → CallOkF io W S ds (F ds S) (G us)
theorem call_ok {io idx wb ks} {n : Nat} {l : FL} {as : List Arg} {F : List D → Sto → Res} {G : List U → UQ U} {dfl : List D} {dflU : List U} (hF : SFn io F G) (hl : SA own l as) (hk : as.map Arg.kind = ks) (hn : as.length = n) (hdf : ∀ W S, Rps W S dfl dflU)
    (hc : chk io idx ks wb (n + dflU.length) = true) : SE own (vCall (vFn n idx dfl F) l) (uCall idx dflU as wb G) := fun W S E e r => by
  obtain ⟨hc, c5⟩ := Bool.and_eq_true_iff.mp hc
  obtain ⟨hc, c4⟩ := Bool.and_eq_true_iff.mp hc
  obtain ⟨hc, c3⟩ := Bool.and_eq_true_iff.mp hc
  obtain ⟨c1, c2⟩ := Bool.and_eq_true_iff.mp hc
  have c3 := of_decide_eq_true c3
  have c4 := of_decide_eq_true c4
  have h := hl W S E e r
  unfold uCall vCall
  rw [ResL.q_bind]
  cases z : uArgs as e with
  | bad => trivial
  | exc c gs e' =>
    rw [z] at h
    obtain ⟨fs, S', k1, k2, k3, k4⟩ := h
    exact ⟨fs, S', by rw [k1]; rfl, k2, k3, k4⟩
  | ok os e1 =>
    rw [z] at h
    obtain ⟨ds, W1, S1, k1, ar, r1, f1, w1, w2⟩ := h
    rw [k1]
    simp only [UQ.bind, DQ.bind, ResL.q]
    cases zf : fill as os e1 with
    | none => trivial
    | some us =>
      obtain ⟨ul, uat⟩ := fill_at zf
      have dl : ds.length = n := by rw [← ar.len.1]; exact hn
      have ul' : us.length = n := by rw [ul]; exact hn
      have hfn : vFn n idx dfl F ds S1 = F (pick idx (ds ++ dfl)) S1 := by unfold vFn; rw [if_pos dl]
      rw [hfn]
      have kl : ks.length = n := by rw [← hk, List.length_map]; exact hn
      -- every index stands in the row
      have c1' : ∀ j, j < idx.length → (if j ∈ io then (match ks[idx.getD j 0]? with
          | some (.io i) => decide ((j, i) ∈ wb)
          | some .fresh => true
          | _ => false) else (match ks[idx.getD j 0]? with
          | some .val => true
          | some _ => false
          | none => decide (idx.getD j 0 < n + dflU.length))) = true := fun j hj => (Bool.and_eq_true_iff.mp (List.all_eq_true.mp c1 j (List.mem_range.mpr hj))).2
      have inb : ∀ j, j < idx.length → idx.getD j 0 < n + dflU.length := fun j hj => by
        have := c1' j hj
        cases zk : ks[idx.getD j 0]? with
        | some k => have := lt_at' zk; omega
        | none =>
          rw [zk] at this
          by_cases hio : j ∈ io
          · rw [if_pos hio] at this; cases this
          · rw [if_neg hio] at this; exact of_decide_eq_true this
      have inb2 : ∀ i, i ∈ idx → i < n + dflU.length := fun i hi => by
        obtain ⟨j, hj, e⟩ := List.getElem_of_mem hi
        have := inb j hj
        rw [List.getD_eq_getElem?_getD, List.getElem?_eq_getElem hj] at this
        simpa [e] using this
      have dfl_len : dfl.length = dflU.length := (hdf W S).len
      obtain ⟨pl, pat⟩ := pick_at idx (ds ++ dfl) fun i hi => by simpa [dl, dfl_len] using inb2 i hi
      obtain ⟨ql, qat⟩ := pick_at idx (us ++ dflU) fun i hi => by simpa [ul'] using inb2 i hi
      -- what stands at a parameter
      have atIo : ∀ j, j ∈ io → j < idx.length ∧ ((∃ i, (j, i) ∈ wb ∧ i ∈ own ∧ ∃ d, (pick idx (ds ++ dfl))[j]? = some d ∧ E[i]? = some (some d) ∧ ∃ u, (pick idx (us ++ dflU))[j]? = some u ∧ e1[i]? = some (some u)) ∨
          ∃ m fs vs, (pick idx (ds ++ dfl))[j]? = some (.ref m) ∧ (pick idx (us ++ dflU))[j]? = some (.lst vs) ∧ S.length ≤ m ∧ W1 m ∧ S1[m]? = some (.lst fs) ∧ Rps W1 S1 fs vs ∧ ∃ q, as[idx.getD j 0]? = some (.fresh q) ∧ ds[idx.getD j 0]? = some (.ref m)) := fun j hj => by
        have hlt := of_decide_eq_true (List.all_eq_true.mp c5 j hj)
        refine ⟨hlt, ?_⟩
        have := c1' j hlt
        rw [if_pos hj] at this
        cases zk : ks[idx.getD j 0]? with
        | none => rw [zk] at this; cases this
        | some k =>
          have hp := lt_at' zk
          obtain ⟨a, ha, hka⟩ := kinds_at hk zk
          obtain ⟨d, o, e3, e4, e5⟩ := ar.at _ a ha
          obtain ⟨u, e6, e7⟩ := uat _ a o ha e4
          have pd : (pick idx (ds ++ dfl))[j]? = some d := by rw [pat j hlt, List.getElem?_append_left (by omega)]; exact e3
          have pu : (pick idx (us ++ dflU))[j]? = some u := by rw [qat j hlt, List.getElem?_append_left (by omega)]; exact e6
          cases a with
          | io i =>
            cases hka
            rw [zk] at this
            exact .inl ⟨i, of_decide_eq_true this, e5.2.1, d, pd, e5.2.2, u, pu, join_some e7⟩
          | val q => cases hka; rw [zk] at this; cases this
          | fresh q =>
            obtain ⟨m, fs, vs, g1, g2, g3, g4, g5, g6⟩ := e5
            subst g2
            unfold Arg.get at e7
            rw [g1] at e7
            cases e7
            exact .inr ⟨m, fs, vs, pd, pu, g3, g4, g5, g6, q, ha, e3⟩
      have mlt : ∀ m, Mine own E m → m < S.length := fun m zz => r.wf m (r.mw m zz)
      have relF : Rel io W1 S1 ((pick idx (ds ++ dfl)).map some) ((pick idx (us ++ dflU)).map some) := by
        refine ⟨r1.wf, by simp [pl, ql], fun j u hu hj => ?_, fun j u hu hj => ?_, fun m ⟨j, hj, zz⟩ => ?_, fun j j' m hj hj' za zb => ?_⟩
        · have hu' : (pick idx (us ++ dflU))[j]? = some u := by
            rw [List.getElem?_map] at hu
            cases zz : (pick idx (us ++ dflU))[j]? with
            | none => simp [zz] at hu
            | some v => simp [zz] at hu; rw [hu]
          have hlt : j < idx.length := by rw [← ql]; exact lt_at' hu'
          have := c1' j hlt
          rw [if_neg hj] at this
          cases zk : ks[idx.getD j 0]? with
          | none =>
            have hge : n ≤ idx.getD j 0 := by
              rcases Nat.lt_or_ge (idx.getD j 0) n with q | q
              · rw [List.getElem?_eq_getElem (by omega)] at zk; cases zk
              · exact q
            rw [qat j hlt, List.getElem?_append_right (by omega)] at hu'
            obtain ⟨d, e1, e2⟩ := (hdf W1 S1).at hu'
            refine ⟨d, ?_, e2⟩
            rw [List.getElem?_map, pat j hlt, List.getElem?_append_right (by omega), dl, ← ul', e1]
            rfl
          | some k =>
            have hp := lt_at' zk
            obtain ⟨a, ha, hka⟩ := kinds_at hk zk
            obtain ⟨d, o, e3, e4, e5⟩ := ar.at _ a ha
            obtain ⟨v, e6, e7⟩ := uat _ a o ha e4
            rw [qat j hlt, List.getElem?_append_left (by omega), e6] at hu'
            cases hu'
            rw [zk] at this
            cases a with
            | io i => cases hka; cases this
            | fresh q => cases hka; cases this
            | val q =>
              obtain ⟨w, g1, g2⟩ := e5
              unfold Arg.get at e7
              rw [g1] at e7
              cases e7
              refine ⟨d, ?_, g2⟩
              rw [List.getElem?_map, pat j hlt, List.getElem?_append_left (by omega), e3]
              rfl
        · have hu' : (pick idx (us ++ dflU))[j]? = some u := by
            rw [List.getElem?_map] at hu
            cases zz : (pick idx (us ++ dflU))[j]? with
            | none => simp [zz] at hu
            | some v => simp [zz] at hu; rw [hu]
          rcases (atIo j hj).2 with ⟨i, _, hi, d, pd, ed, v, pv, ev⟩ | ⟨m, fs, vs, pd, pv, g3, g4, g5, g6, _⟩
          · rw [hu'] at pv
            cases pv
            obtain ⟨m, fs, vs, h1, h2, h3, h4⟩ := r1.ow i u ev hi
            rw [ed] at h2
            cases h2
            exact ⟨m, fs, vs, h1, by rw [List.getElem?_map, pd]; rfl, h3, h4⟩
          · rw [hu'] at pv
            cases pv
            exact ⟨m, fs, vs, rfl, by rw [List.getElem?_map, pd]; rfl, g5, g6⟩
        · rcases (atIo j hj).2 with ⟨i, _, hi, d, pd, ed, v, pv, ev⟩ | ⟨m', fs, vs, pd, pv, g3, g4, g5, g6, _⟩
          · rw [List.getElem?_map, pd] at zz
            cases zz
            exact r1.mw m ⟨i, hi, ed⟩
          · rw [List.getElem?_map, pd] at zz
            cases zz
            exact g4
        · obtain ⟨lj, hj1⟩ := atIo j hj
          obtain ⟨lj', hj2⟩ := atIo j' hj'
          have wbi : ∀ {j i : Nat}, (j, i) ∈ wb → ks[idx.getD j 0]? = some (.io i) := fun {j i} hw => of_decide_eq_true (Bool.and_eq_true_iff.mp (List.all_eq_true.mp c2 (j, i) hw)).2
          have idx_inj : idx.getD j 0 = idx.getD j' 0 → j = j' := fun q => by
            rw [List.getD_eq_getElem?_getD, List.getD_eq_getElem?_getD, List.getElem?_eq_getElem lj, List.getElem?_eq_getElem lj'] at q
            exact nodup_inj c4 lj lj' (by simpa using q)
          rcases hj1 with ⟨i, hw, hi, d, pd, ed, v, pv, ev⟩ | ⟨m1, fs, vs, pd, pv, g3, g4, g5, g6, q, ha, hb⟩
          · rcases hj2 with ⟨i', hw', hi', d', pd', ed', v', pv', ev'⟩ | ⟨m1, fs, vs, pd', pv', g3, g4, g5, g6, q, ha, hb⟩
            · rw [List.getElem?_map, pd] at za
              rw [List.getElem?_map, pd'] at zb
              cases za
              cases zb
              have hii : i = i' := r1.inj i i' m hi hi' ed ed'
              subst hii
              -- one slot stands in wb once
              exact nodup_snd c3 hw hw'
            · rw [List.getElem?_map, pd] at za
              rw [List.getElem?_map, pd'] at zb
              cases za
              cases zb
              have := mlt m ⟨i, hi, ed⟩
              omega
          · rcases hj2 with ⟨i', hw', hi', d', pd', ed', v', pv', ev'⟩ | ⟨m2, fs', vs', pd', pv', g3', g4', g5', g6', q', ha', hb'⟩
            · rw [List.getElem?_map, pd] at za
              rw [List.getElem?_map, pd'] at zb
              cases za
              cases zb
              have := mlt m ⟨i', hi', ed'⟩
              omega
            · rw [List.getElem?_map, pd] at za
              rw [List.getElem?_map, pd'] at zb
              cases za
              cases zb
              exact idx_inj (ar.two _ _ q q' m ha ha' hb hb')
      have res := hF W1 S1 _ _ relF
      have mineF : ∀ m, Mine io ((pick idx (ds ++ dfl)).map some) m → W1 m ∧ (m < S.length → Mine own E m) := fun m ⟨j, hj, zz⟩ => by
        refine ⟨relF.mw m ⟨j, hj, zz⟩, fun hm => ?_⟩
        rcases (atIo j hj).2 with ⟨i, _, hi, d, pd, ed, v, pv, ev⟩ | ⟨m', fs, vs, pd, pv, g3, g4, g5, g6, _⟩
        · rw [List.getElem?_map, pd] at zz
          cases zz
          exact ⟨i, hi, ed⟩
        · rw [List.getElem?_map, pd] at zz
          cases zz
          omega
      -- behind the call
      have after : ∀ (Wx : WP) (S2 : Sto) (ep : UV), (∀ k, W1 k → Wx k) → (∀ k, Wx k → k < S2.length) → Up W1 S1 Wx S2 → Back io Wx S2 (pick idx (ds ++ dfl)) ep → Frm (Mine io ((pick idx (ds ++ dfl)).map some)) S1 S2 → Rel own Wx S2 E (wbk wb ep e1) ∧ Frm (Mine own E) S S2 := fun Wx S2 ep hx1 hx2 up2 bk f2 => by
        have f3 : Frm (Mine own E) S S2 := ⟨Nat.le_trans f1.1 f2.1, fun m a b => by
          rw [f2.2 m (Nat.lt_of_lt_of_le a f1.1) fun zz => b ((mineF m zz).2 a)]
          exact f1.2 m a b⟩
        refine ⟨⟨hx2, by rw [wbk_len]; exact r1.len, fun i u a b => ?_, fun i u a b => ?_, fun m zz => hx1 m (r1.mw m zz), r1.inj⟩, f3⟩
        · rcases wbk_at wb c3 a with ⟨j, h1, h2⟩ | ⟨h1, h2⟩
          · have hk2 : ks[idx.getD j 0]? = some (.io i) := of_decide_eq_true (Bool.and_eq_true_iff.mp (List.all_eq_true.mp c2 (j, i) h1)).2
            obtain ⟨a', ha, hka⟩ := kinds_at hk hk2
            obtain ⟨d, o, e3, e4, e5⟩ := ar.at _ a' ha
            cases a' with
            | io i' => cases hka; exact absurd e5.2.1 b
            | val q => cases hka
            | fresh q => cases hka
          · obtain ⟨d, h3, h4⟩ := r1.val i u h2 b
            exact ⟨d, h3, h4.up up2⟩
        · rcases wbk_at wb c3 a with ⟨j, h1, h2⟩ | ⟨h1, h2⟩
          · obtain ⟨hc1, hc2⟩ := Bool.and_eq_true_iff.mp (List.all_eq_true.mp c2 (j, i) h1)
            have hjio : j ∈ io := of_decide_eq_true (Bool.and_eq_true_iff.mp hc1).1
            obtain ⟨m, fs, vs, g1, g2, g3, g4⟩ := bk j hjio u h2
            rcases (atIo j hjio).2 with ⟨i', hw', hi', d', pd', ed', v', pv', ev'⟩ | ⟨m1, fs', vs', pd', pv', g3', g4', g5', g6', q, ha, hb⟩
            · rw [pd'] at g2
              cases g2
              have hk2 : ks[idx.getD j 0]? = some (.io i) := of_decide_eq_true hc2
              have hk3 : ks[idx.getD j 0]? = some (.io i') := of_decide_eq_true (Bool.and_eq_true_iff.mp (List.all_eq_true.mp c2 (j, i') hw')).2
              rw [hk2] at hk3
              cases hk3
              exact ⟨m, fs, vs, g1, ed', g3, g4⟩
            · have hk2 : ks[idx.getD j 0]? = some (.io i) := of_decide_eq_true hc2
              obtain ⟨a', ha', hka⟩ := kinds_at hk hk2
              rw [ha] at ha'
              cases ha'
              cases hka
          · obtain ⟨m, fs, vs, g1, g2, g3, g4⟩ := r1.ow i u h2 b
            refine ⟨m, fs, vs, g1, g2, ?_, g4.up up2⟩
            rw [f2.2 m (lt_at g3) fun ⟨j, hj, zz⟩ => ?_]
            · exact g3
            · rcases (atIo j hj).2 with ⟨i', hw', hi', d', pd', ed', v', pv', ev'⟩ | ⟨m1, fs', vs', pd', pv', g3', g4', g5', g6', q, ha, hb⟩
              · rw [List.getElem?_map, pd'] at zz
                cases zz
                have hii := r1.inj i i' m b hi' g2 ed'
                subst hii
                exact h1 j hw'
              · rw [List.getElem?_map, pd'] at zz
                cases zz
                have := mlt m ⟨i, b, g2⟩
                omega
      have upW : ∀ (S2 : Sto), Frm (Mine io ((pick idx (ds ++ dfl)).map some)) S1 S2 → Up W1 S1 W1 S2 := fun S2 f2 => Up.frm (fun m zz => (mineF m zz).1) f2
      have aft1 : ∀ (S2 : Sto) (ep : UV), Back io W1 S2 (pick idx (ds ++ dfl)) ep → Frm (Mine io ((pick idx (ds ++ dfl)).map some)) S1 S2 → Rel own W S2 E (wbk wb ep e1) ∧ Frm (Mine own E) S S2 := fun S2 ep bk f2 =>
        let ⟨a, b⟩ := after W1 S2 ep (fun _ z => z) (fun m zz => Nat.lt_of_lt_of_le (r1.wf m zz) f2.1) (upW S2 f2) bk f2
        ⟨a.anti w1 r.mw, b⟩
      dsimp only
      cases zg : G (pick idx (us ++ dflU)) with
      | bad => exact (QOk.bad : QOk Rp own W S E _ (.bad : UQ U))
      | ok u ep =>
        rw [zg] at res
        obtain ⟨d, S2, j1, j2, j3, j4⟩ := res
        obtain ⟨q1, q2⟩ := aft1 S2 ep j3 j4
        exact ⟨d, S2, by rw [j1]; rfl, j2.up (Up.anti w1), q1, q2⟩
      | exc c gs ep =>
        rw [zg] at res
        obtain ⟨d, S2, j1, j2, j3, j4⟩ := res
        obtain ⟨q1, q2⟩ := aft1 S2 ep j3 j4
        exact ⟨d, S2, by rw [j1]; rfl, j2.up (Up.anti w1), q1, q2⟩
theorem call_okF {io idx wb ks} {n : Nat} {l : FL} {as : List Arg} {F : List D → Sto → Res} {G : List U → UQ U} {dfl : List D} {dflU : List U} (hF : SFnF io F G) (hl : SA own l as) (hk : as.map Arg.kind = ks) (hn : as.length = n) (hdf : ∀ W S, Rps W S dfl dflU)
    (hc : chk io idx ks wb (n + dflU.length) = true) : SF own (vCall (vFn n idx dfl F) l) (uCall idx dflU as wb G) := fun W S E e r => by
  obtain ⟨hc, c5⟩ := Bool.and_eq_true_iff.mp hc
  obtain ⟨hc, c4⟩ := Bool.and_eq_true_iff.mp hc
  obtain ⟨hc, c3⟩ := Bool.and_eq_true_iff.mp hc
  obtain ⟨c1, c2⟩ := Bool.and_eq_true_iff.mp hc
  have c3 := of_decide_eq_true c3
  have c4 := of_decide_eq_true c4
  have h := hl W S E e r
  unfold uCall vCall
  cases z : uArgs as e with
  | bad => trivial
  | exc c gs e' =>
    rw [z] at h
    obtain ⟨fs, S', k1, k2, k3, k4⟩ := h
    exact ⟨fs, S', by rw [k1]; rfl, k2, k3, k4⟩
  | ok os e1 =>
    rw [z] at h
    obtain ⟨ds, W1, S1, k1, ar, r1, f1, w1, w2⟩ := h
    rw [k1]
    simp only [UQ.bind, ResL.bind]
    cases zf : fill as os e1 with
    | none => trivial
    | some us =>
      obtain ⟨ul, uat⟩ := fill_at zf
      have dl : ds.length = n := by rw [← ar.len.1]; exact hn
      have ul' : us.length = n := by rw [ul]; exact hn
      have hfn : vFn n idx dfl F ds S1 = F (pick idx (ds ++ dfl)) S1 := by unfold vFn; rw [if_pos dl]
      rw [hfn]
      have kl : ks.length = n := by rw [← hk, List.length_map]; exact hn
      -- every index stands in the row
      have c1' : ∀ j, j < idx.length → (if j ∈ io then (match ks[idx.getD j 0]? with
          | some (.io i) => decide ((j, i) ∈ wb)
          | some .fresh => true
          | _ => false) else (match ks[idx.getD j 0]? with
          | some .val => true
          | some _ => false
          | none => decide (idx.getD j 0 < n + dflU.length))) = true := fun j hj => (Bool.and_eq_true_iff.mp (List.all_eq_true.mp c1 j (List.mem_range.mpr hj))).2
      have inb : ∀ j, j < idx.length → idx.getD j 0 < n + dflU.length := fun j hj => by
        have := c1' j hj
        cases zk : ks[idx.getD j 0]? with
        | some k => have := lt_at' zk; omega
        | none =>
          rw [zk] at this
          by_cases hio : j ∈ io
          · rw [if_pos hio] at this; cases this
          · rw [if_neg hio] at this; exact of_decide_eq_true this
      have inb2 : ∀ i, i ∈ idx → i < n + dflU.length := fun i hi => by
        obtain ⟨j, hj, e⟩ := List.getElem_of_mem hi
        have := inb j hj
        rw [List.getD_eq_getElem?_getD, List.getElem?_eq_getElem hj] at this
        simpa [e] using this
      have dfl_len : dfl.length = dflU.length := (hdf W S).len
      obtain ⟨pl, pat⟩ := pick_at idx (ds ++ dfl) fun i hi => by simpa [dl, dfl_len] using inb2 i hi
      obtain ⟨ql, qat⟩ := pick_at idx (us ++ dflU) fun i hi => by simpa [ul'] using inb2 i hi
      -- what stands at a parameter
      have atIo : ∀ j, j ∈ io → j < idx.length ∧ ((∃ i, (j, i) ∈ wb ∧ i ∈ own ∧ ∃ d, (pick idx (ds ++ dfl))[j]? = some d ∧ E[i]? = some (some d) ∧ ∃ u, (pick idx (us ++ dflU))[j]? = some u ∧ e1[i]? = some (some u)) ∨
          ∃ m fs vs, (pick idx (ds ++ dfl))[j]? = some (.ref m) ∧ (pick idx (us ++ dflU))[j]? = some (.lst vs) ∧ S.length ≤ m ∧ W1 m ∧ S1[m]? = some (.lst fs) ∧ Rps W1 S1 fs vs ∧ ∃ q, as[idx.getD j 0]? = some (.fresh q) ∧ ds[idx.getD j 0]? = some (.ref m)) := fun j hj => by
        have hlt := of_decide_eq_true (List.all_eq_true.mp c5 j hj)
        refine ⟨hlt, ?_⟩
        have := c1' j hlt
        rw [if_pos hj] at this
        cases zk : ks[idx.getD j 0]? with
        | none => rw [zk] at this; cases this
        | some k =>
          have hp := lt_at' zk
          obtain ⟨a, ha, hka⟩ := kinds_at hk zk
          obtain ⟨d, o, e3, e4, e5⟩ := ar.at _ a ha
          obtain ⟨u, e6, e7⟩ := uat _ a o ha e4
          have pd : (pick idx (ds ++ dfl))[j]? = some d := by rw [pat j hlt, List.getElem?_append_left (by omega)]; exact e3
          have pu : (pick idx (us ++ dflU))[j]? = some u := by rw [qat j hlt, List.getElem?_append_left (by omega)]; exact e6
          cases a with
          | io i =>
            cases hka
            rw [zk] at this
            exact .inl ⟨i, of_decide_eq_true this, e5.2.1, d, pd, e5.2.2, u, pu, join_some e7⟩
          | val q => cases hka; rw [zk] at this; cases this
          | fresh q =>
            obtain ⟨m, fs, vs, g1, g2, g3, g4, g5, g6⟩ := e5
            subst g2
            unfold Arg.get at e7
            rw [g1] at e7
            cases e7
            exact .inr ⟨m, fs, vs, pd, pu, g3, g4, g5, g6, q, ha, e3⟩
      have mlt : ∀ m, Mine own E m → m < S.length := fun m zz => r.wf m (r.mw m zz)
      have relF : Rel io W1 S1 ((pick idx (ds ++ dfl)).map some) ((pick idx (us ++ dflU)).map some) := by
        refine ⟨r1.wf, by simp [pl, ql], fun j u hu hj => ?_, fun j u hu hj => ?_, fun m ⟨j, hj, zz⟩ => ?_, fun j j' m hj hj' za zb => ?_⟩
        · have hu' : (pick idx (us ++ dflU))[j]? = some u := by
            rw [List.getElem?_map] at hu
            cases zz : (pick idx (us ++ dflU))[j]? with
            | none => simp [zz] at hu
            | some v => simp [zz] at hu; rw [hu]
          have hlt : j < idx.length := by rw [← ql]; exact lt_at' hu'
          have := c1' j hlt
          rw [if_neg hj] at this
          cases zk : ks[idx.getD j 0]? with
          | none =>
            have hge : n ≤ idx.getD j 0 := by
              rcases Nat.lt_or_ge (idx.getD j 0) n with q | q
              · rw [List.getElem?_eq_getElem (by omega)] at zk; cases zk
              · exact q
            rw [qat j hlt, List.getElem?_append_right (by omega)] at hu'
            obtain ⟨d, e1, e2⟩ := (hdf W1 S1).at hu'
            refine ⟨d, ?_, e2⟩
            rw [List.getElem?_map, pat j hlt, List.getElem?_append_right (by omega), dl, ← ul', e1]
            rfl
          | some k =>
            have hp := lt_at' zk
            obtain ⟨a, ha, hka⟩ := kinds_at hk zk
            obtain ⟨d, o, e3, e4, e5⟩ := ar.at _ a ha
            obtain ⟨v, e6, e7⟩ := uat _ a o ha e4
            rw [qat j hlt, List.getElem?_append_left (by omega), e6] at hu'
            cases hu'
            rw [zk] at this
            cases a with
            | io i => cases hka; cases this
            | fresh q => cases hka; cases this
            | val q =>
              obtain ⟨w, g1, g2⟩ := e5
              unfold Arg.get at e7
              rw [g1] at e7
              cases e7
              refine ⟨d, ?_, g2⟩
              rw [List.getElem?_map, pat j hlt, List.getElem?_append_left (by omega), e3]
              rfl
        · have hu' : (pick idx (us ++ dflU))[j]? = some u := by
            rw [List.getElem?_map] at hu
            cases zz : (pick idx (us ++ dflU))[j]? with
            | none => simp [zz] at hu
            | some v => simp [zz] at hu; rw [hu]
          rcases (atIo j hj).2 with ⟨i, _, hi, d, pd, ed, v, pv, ev⟩ | ⟨m, fs, vs, pd, pv, g3, g4, g5, g6, _⟩
          · rw [hu'] at pv
            cases pv
            obtain ⟨m, fs, vs, h1, h2, h3, h4⟩ := r1.ow i u ev hi
            rw [ed] at h2
            cases h2
            exact ⟨m, fs, vs, h1, by rw [List.getElem?_map, pd]; rfl, h3, h4⟩
          · rw [hu'] at pv
            cases pv
            exact ⟨m, fs, vs, rfl, by rw [List.getElem?_map, pd]; rfl, g5, g6⟩
        · rcases (atIo j hj).2 with ⟨i, _, hi, d, pd, ed, v, pv, ev⟩ | ⟨m', fs, vs, pd, pv, g3, g4, g5, g6, _⟩
          · rw [List.getElem?_map, pd] at zz
            cases zz
            exact r1.mw m ⟨i, hi, ed⟩
          · rw [List.getElem?_map, pd] at zz
            cases zz
            exact g4
        · obtain ⟨lj, hj1⟩ := atIo j hj
          obtain ⟨lj', hj2⟩ := atIo j' hj'
          have wbi : ∀ {j i : Nat}, (j, i) ∈ wb → ks[idx.getD j 0]? = some (.io i) := fun {j i} hw => of_decide_eq_true (Bool.and_eq_true_iff.mp (List.all_eq_true.mp c2 (j, i) hw)).2
          have idx_inj : idx.getD j 0 = idx.getD j' 0 → j = j' := fun q => by
            rw [List.getD_eq_getElem?_getD, List.getD_eq_getElem?_getD, List.getElem?_eq_getElem lj, List.getElem?_eq_getElem lj'] at q
            exact nodup_inj c4 lj lj' (by simpa using q)
          rcases hj1 with ⟨i, hw, hi, d, pd, ed, v, pv, ev⟩ | ⟨m1, fs, vs, pd, pv, g3, g4, g5, g6, q, ha, hb⟩
          · rcases hj2 with ⟨i', hw', hi', d', pd', ed', v', pv', ev'⟩ | ⟨m1, fs, vs, pd', pv', g3, g4, g5, g6, q, ha, hb⟩
            · rw [List.getElem?_map, pd] at za
              rw [List.getElem?_map, pd'] at zb
              cases za
              cases zb
              have hii : i = i' := r1.inj i i' m hi hi' ed ed'
              subst hii
              -- one slot stands in wb once
              exact nodup_snd c3 hw hw'
            · rw [List.getElem?_map, pd] at za
              rw [List.getElem?_map, pd'] at zb
              cases za
              cases zb
              have := mlt m ⟨i, hi, ed⟩
              omega
          · rcases hj2 with ⟨i', hw', hi', d', pd', ed', v', pv', ev'⟩ | ⟨m2, fs', vs', pd', pv', g3', g4', g5', g6', q', ha', hb'⟩
            · rw [List.getElem?_map, pd] at za
              rw [List.getElem?_map, pd'] at zb
              cases za
              cases zb
              have := mlt m ⟨i', hi', ed'⟩
              omega
            · rw [List.getElem?_map, pd] at za
              rw [List.getElem?_map, pd'] at zb
              cases za
              cases zb
              exact idx_inj (ar.two _ _ q q' m ha ha' hb hb')
      have res := hF W1 S1 _ _ relF
      have mineF : ∀ m, Mine io ((pick idx (ds ++ dfl)).map some) m → W1 m ∧ (m < S.length → Mine own E m) := fun m ⟨j, hj, zz⟩ => by
        refine ⟨relF.mw m ⟨j, hj, zz⟩, fun hm => ?_⟩
        rcases (atIo j hj).2 with ⟨i, _, hi, d, pd, ed, v, pv, ev⟩ | ⟨m', fs, vs, pd, pv, g3, g4, g5, g6, _⟩
        · rw [List.getElem?_map, pd] at zz
          cases zz
          exact ⟨i, hi, ed⟩
        · rw [List.getElem?_map, pd] at zz
          cases zz
          omega
      -- behind the call
      have after : ∀ (Wx : WP) (S2 : Sto) (ep : UV), (∀ k, W1 k → Wx k) → (∀ k, Wx k → k < S2.length) → Up W1 S1 Wx S2 → Back io Wx S2 (pick idx (ds ++ dfl)) ep → Frm (Mine io ((pick idx (ds ++ dfl)).map some)) S1 S2 → Rel own Wx S2 E (wbk wb ep e1) ∧ Frm (Mine own E) S S2 := fun Wx S2 ep hx1 hx2 up2 bk f2 => by
        have f3 : Frm (Mine own E) S S2 := ⟨Nat.le_trans f1.1 f2.1, fun m a b => by
          rw [f2.2 m (Nat.lt_of_lt_of_le a f1.1) fun zz => b ((mineF m zz).2 a)]
          exact f1.2 m a b⟩
        refine ⟨⟨hx2, by rw [wbk_len]; exact r1.len, fun i u a b => ?_, fun i u a b => ?_, fun m zz => hx1 m (r1.mw m zz), r1.inj⟩, f3⟩
        · rcases wbk_at wb c3 a with ⟨j, h1, h2⟩ | ⟨h1, h2⟩
          · have hk2 : ks[idx.getD j 0]? = some (.io i) := of_decide_eq_true (Bool.and_eq_true_iff.mp (List.all_eq_true.mp c2 (j, i) h1)).2
            obtain ⟨a', ha, hka⟩ := kinds_at hk hk2
            obtain ⟨d, o, e3, e4, e5⟩ := ar.at _ a' ha
            cases a' with
            | io i' => cases hka; exact absurd e5.2.1 b
            | val q => cases hka
            | fresh q => cases hka
          · obtain ⟨d, h3, h4⟩ := r1.val i u h2 b
            exact ⟨d, h3, h4.up up2⟩
        · rcases wbk_at wb c3 a with ⟨j, h1, h2⟩ | ⟨h1, h2⟩
          · obtain ⟨hc1, hc2⟩ := Bool.and_eq_true_iff.mp (List.all_eq_true.mp c2 (j, i) h1)
            have hjio : j ∈ io := of_decide_eq_true (Bool.and_eq_true_iff.mp hc1).1
            obtain ⟨m, fs, vs, g1, g2, g3, g4⟩ := bk j hjio u h2
            rcases (atIo j hjio).2 with ⟨i', hw', hi', d', pd', ed', v', pv', ev'⟩ | ⟨m1, fs', vs', pd', pv', g3', g4', g5', g6', q, ha, hb⟩
            · rw [pd'] at g2
              cases g2
              have hk2 : ks[idx.getD j 0]? = some (.io i) := of_decide_eq_true hc2
              have hk3 : ks[idx.getD j 0]? = some (.io i') := of_decide_eq_true (Bool.and_eq_true_iff.mp (List.all_eq_true.mp c2 (j, i') hw')).2
              rw [hk2] at hk3
              cases hk3
              exact ⟨m, fs, vs, g1, ed', g3, g4⟩
            · have hk2 : ks[idx.getD j 0]? = some (.io i) := of_decide_eq_true hc2
              obtain ⟨a', ha', hka⟩ := kinds_at hk hk2
              rw [ha] at ha'
              cases ha'
              cases hka
          · obtain ⟨m, fs, vs, g1, g2, g3, g4⟩ := r1.ow i u h2 b
            refine ⟨m, fs, vs, g1, g2, ?_, g4.up up2⟩
            rw [f2.2 m (lt_at g3) fun ⟨j, hj, zz⟩ => ?_]
            · exact g3
            · rcases (atIo j hj).2 with ⟨i', hw', hi', d', pd', ed', v', pv', ev'⟩ | ⟨m1, fs', vs', pd', pv', g3', g4', g5', g6', q, ha, hb⟩
              · rw [List.getElem?_map, pd'] at zz
                cases zz
                have hii := r1.inj i i' m b hi' g2 ed'
                subst hii
                exact h1 j hw'
              · rw [List.getElem?_map, pd'] at zz
                cases zz
                have := mlt m ⟨i, b, g2⟩
                omega
      have upW : ∀ (S2 : Sto), Frm (Mine io ((pick idx (ds ++ dfl)).map some)) S1 S2 → Up W1 S1 W1 S2 := fun S2 f2 => Up.frm (fun m zz => (mineF m zz).1) f2
      have aft1 : ∀ (S2 : Sto) (ep : UV), Back io W1 S2 (pick idx (ds ++ dfl)) ep → Frm (Mine io ((pick idx (ds ++ dfl)).map some)) S1 S2 → Rel own W S2 E (wbk wb ep e1) ∧ Frm (Mine own E) S S2 := fun S2 ep bk f2 =>
        let ⟨a, b⟩ := after W1 S2 ep (fun _ z => z) (fun m zz => Nat.lt_of_lt_of_le (r1.wf m zz) f2.1) (upW S2 f2) bk f2
        ⟨a.anti w1 r.mw, b⟩
      dsimp only
      cases zg : G (pick idx (us ++ dflU)) with
      | bad => exact True.intro
      | exc c gs ep =>
        rw [zg] at res
        obtain ⟨d, S2, j1, j2, j3, j4⟩ := res
        obtain ⟨q1, q2⟩ := aft1 S2 ep j3 j4
        exact ⟨d, S2, j1, j2.up (Up.anti w1), q1, q2⟩
      | ok u ep =>
        rw [zg] at res
        obtain ⟨m, fs, vs, S2, j1, rfl, j3, j4, j5, j6, j7, j8⟩ := res
        have up3 : Up W1 S1 (fun k => W1 k ∨ k = m) S2 := fun k c a b => ⟨fun zz => zz.elim a fun zz => by have := lt_at b; omega, ((upW S2 j7) k c a b).2⟩
        obtain ⟨q1, q2⟩ := after (fun k => W1 k ∨ k = m) S2 ep (fun _ z => .inl z) j8 up3 j6 j7
        refine ⟨m, fs, vs, S2, j1, rfl, Nat.le_trans f1.1 j3, j4, j5.up (Up.anti fun k zz => zz.imp (w1 k) id), q1.anti (fun k zz => zz.imp (w1 k) id) fun k zz => .inl (r.mw k zz), q2⟩
end
end Z
namespace Z
open PySem PySem.Spec PyProof.Rows L2
section
variable {md : Bool} {io lo xo own own1 own2 own' : List Nat}
/-- an own list is written -/
theorem Rel.write {W S E e k n ds us} (r : Rel own W S E e) (hk : k ∈ own) (hE : E[k]? = some (some (.ref n))) (hn : n < S.length) (rs : Rps W S ds us) : Rel own W (S.set n (.lst ds)) E (e.set k (some (.lst us))) := by
  have hw := r.mw n ⟨k, hk, hE⟩
  have l : Up W S W (S.set n (.lst ds)) := Up.cell hw
  refine ⟨fun m z => by simpa using r.wf m z, by simp [r.len], fun j v a b => ?_, fun j v a b => ?_, r.mw, r.inj⟩
  · have hj : k ≠ j := fun z => b (z ▸ hk)
    rw [set_other hj] at a
    obtain ⟨d, h1, h2⟩ := r.val j v a b
    exact ⟨d, h1, h2.up l⟩
  · by_cases hj : k = j
    · subst hj
      have hl : k < e.length := by simpa using (List.getElem?_eq_some_iff.mp a).1
      rw [List.getElem?_set_self hl] at a
      cases a
      exact ⟨n, ds, us, rfl, hE, List.getElem?_set_self hn, rs.up l⟩
    · rw [set_other hj] at a
      obtain ⟨m, fs, vs, h1, h2, h3, h4⟩ := r.ow j v a b
      refine ⟨m, fs, vs, h1, h2, ?_, h4.up l⟩
      rw [set_other fun (z : n = m) => hj (r.inj k j n hk b hE (z ▸ h2))]
      exact h3
theorem frm_write {E S k n c} (hk : k ∈ own) (hE : E[k]? = some (some (.ref n))) : Frm (Mine own E) S (S.set n c) :=
  ⟨by simp, fun m a b => set_other fun (z : n = m) => b ⟨k, hk, z ▸ hE⟩⟩
theorem own_at {W S E e k us} (r : Rel own W S E e) (hk : k ∈ own) (h : (e[k]?).join = some (.lst us)) : ∃ n ds, E[k]? = some (some (.ref n)) ∧ S[n]? = some (.lst ds) ∧ Rps W S ds us := by
  obtain ⟨n, ds, vs, h1, h2, h3, h4⟩ := r.ow k _ (join_some h) hk
  cases h1
  exact ⟨n, ds, h2, h3, h4⟩
theorem own_lst {W S E e k u} (r : Rel own W S E e) (hk : k ∈ own) (h : (e[k]?).join = some u) : ∃ us, u = .lst us := by
  obtain ⟨n, ds, vs, h1, _⟩ := r.ow k _ (join_some h) hk
  exact ⟨vs, h1⟩
def uApp (k : Nat) (q : UE) : UE := fun e => match (e[k]?).join with
  | some _ => (q e).bind fun u e1 => (match (e1[k]?).join with
    | some (.lst us) => if us.length < 100000 then .ok .non (e1.set k (some (.lst (us ++ [u])))) else .bad
    | _ => .bad)
  | none => .bad
theorem meth_eq {g : D → List D → Sto → Res} {f : FE} {E : Ev} {S : Sto} {k n : Nat} {ds : List D} (hE : E[k]? = some (some (.ref n))) (hs : S[n]? = some (.lst ds)) : vMeth isLst g (vV k) (lCons f lNil) E S = (f E S).bind fun d S1 => g (.ref n) [d] S1 := by
  simp only [vMeth, vV, hE, Res.bind, isLst, hs, if_true, lCons, lNil]
  cases f E S <;> rfl
theorem su_app {k f q} (h : SE own f q) (hk : decide (k ∈ own) = true) : SE own (vMeth isLst gApp (vV k) (lCons f lNil)) (uApp k q) := fun W S E e r => by
  have hk := of_decide_eq_true hk
  unfold uApp
  cases z : (e[k]?).join with
  | none => trivial
  | some u =>
    obtain ⟨us, rfl⟩ := own_lst r hk z
    obtain ⟨n, ds, h1, h2, h3⟩ := own_at r hk z
    rw [meth_eq h1 h2]
    rw [Res.q_bind]
    refine QOk.bind (h W S E e r) fun a b S1 e1 ra r1 l => ?_
    split
    · rename_i vs hv
      split
      · rename_i hz
        obtain ⟨m, fs, j1, j2, j3⟩ := own_at r1 hk hv
        rw [h1] at j1
        cases j1
        refine ⟨.non, S1.set n (.lst (fs ++ [a])), ?_, .non, r1.write hk h1 (lt_at j2) (j3.app (.cons ra .nil)), frm_write hk h1⟩
        simp [gApp, j2, j3.len, hz, Res.q]
      · trivial
    · trivial
def uExt (k : Nat) (q : UE) : UE := fun e => match (e[k]?).join with
  | some _ => (q e).bind fun u e1 => (match (e1[k]?).join, u with
    | some (.lst us), .tup vs => if us.length + vs.length ≤ 100000 then .ok .non (e1.set k (some (.lst (us ++ vs)))) else .bad
    | some (.lst us), .lst vs => if us.length + vs.length ≤ 100000 then .ok .non (e1.set k (some (.lst (us ++ vs)))) else .bad
    | _, _ => .bad)
  | none => .bad
theorem su_ext {k f q} (h : SE own f q) (hk : decide (k ∈ own) = true) : SE own (vMeth isLst gExt (vV k) (lCons f lNil)) (uExt k q) := fun W S E e r => by
  have hk := of_decide_eq_true hk
  unfold uExt
  cases z : (e[k]?).join with
  | none => trivial
  | some u =>
    obtain ⟨us, rfl⟩ := own_lst r hk z
    obtain ⟨n, ds, h1, h2, h3⟩ := own_at r hk z
    rw [meth_eq h1 h2]
    rw [Res.q_bind]
    refine QOk.bind (h W S E e r) fun a b S1 e1 ra r1 l => ?_
    split
    · rename_i vs ws hv
      split
      · rename_i hz
        obtain ⟨m, fs, j1, j2, j3⟩ := own_at r1 hk hv
        rw [h1] at j1
        cases j1
        cases ra with
        | tup rs =>
          refine ⟨.non, _, ?_, .non, r1.write hk h1 (lt_at j2) (j3.app rs), frm_write hk h1⟩
          simp [gExt, j2, j3.len, rs.len, hz, Res.q]
      · trivial
    · rename_i vs ws hv
      split
      · rename_i hz
        obtain ⟨m, fs, j1, j2, j3⟩ := own_at r1 hk hv
        rw [h1] at j1
        cases j1
        cases ra with
        | lst hn hs rs =>
          refine ⟨.non, _, ?_, .non, r1.write hk h1 (lt_at j2) (j3.app rs), frm_write hk h1⟩
          simp [gExt, j2, hs, j3.len, rs.len, hz, Res.q]
      · trivial
    · trivial
def uPop (k : Nat) : UE := fun e => match (e[k]?).join with
  | some (.lst us) => (match us[us.length - 1]? with
    | some y => .ok y (e.set k (some (.lst us.dropLast)))
    | none => .bad)
  | _ => .bad
theorem Rps.dropLast {W S} {ds : List D} {us : List U} (h : Rps W S ds us) : Rps W S ds.dropLast us.dropLast := by
  rw [List.dropLast_eq_take, List.dropLast_eq_take, h.len]
  exact h.take _
theorem su_pop {k} (hk : decide (k ∈ own) = true) : SE own (vMeth0 isLst gPop (vV k)) (uPop k) := fun W S E e r => by
  have hk := of_decide_eq_true hk
  unfold uPop
  split
  · rename_i us z
    split
    · rename_i y hy
      obtain ⟨n, ds, h1, h2, h3⟩ := own_at r hk z
      obtain ⟨d, e1, e2⟩ := h3.at hy
      refine ⟨d, S.set n (.lst ds.dropLast), ?_, e2.up (Up.cell (r.mw n ⟨k, hk, h1⟩)), r.write hk h1 (lt_at h2) h3.dropLast, frm_write hk h1⟩
      rw [← h3.len] at e1
      simp [vMeth0, vV, h1, Res.bind, isLst, h2, gPop, e1, Res.q]
    · trivial
  · trivial
/-- xs[i] = e of an own list -/
def uSub (k : Nat) (f i : UE) : UF := fun e => (f e).s fun u e1 => match (e1[k]?).join with
  | some _ => (i e1).s fun j e2 => (match (e2[k]?).join, j with
    | some (.lst us), .int jj => (match ixN us.length jj with
      | some a => .nx (e2.set k (some (.lst (us.set a u))))
      | none => .bad)
    | _, _ => .bad)
  | none => .bad
theorem ss_sub {k f fi q qi} (h : SE own f q) (hi : SE own fi qi) (hx : (subB xo own && subB io xo) = true) (hk : decide (k ∈ own) = true) : SS md io lo xo own own (sSub f (vV k) fi) (uSub k q qi) := fun W0 L0 W S E e c r => by
  have hk := of_decide_eq_true hk
  refine SOk.bind hx c r (h W S E e r) fun a b S1 e1 ra r1 c1 l => ?_
  cases z : (e1[k]?).join with
  | none => trivial
  | some u =>
    obtain ⟨us, rfl⟩ := own_lst r1 hk z
    obtain ⟨n, ds, h1, h2, h3⟩ := own_at r1 hk z
    have ev : (vV k E S1) = .ok (.ref n) S1 := by simp [vV, h1]
    rw [ev]
    show SOk _ _ _ _ _ _ _ _ _ _ ((fi E S1).s E fun k S3 => _) _
    refine SOk.bind hx c1 r1 (hi W S1 E e1 r1) fun a2 b2 S2 e2 ra2 r2 c2 l2 => ?_
    cases hv : (e2[k]?).join with
    | none => exact True.intro
    | some v =>
      obtain ⟨vs, rfl⟩ := own_lst r2 hk hv
      obtain ⟨m, fs, j1, j2, j3⟩ := own_at r2 hk hv
      rw [h1] at j1
      cases j1
      cases ra2 with
      | int jj =>
        dsimp only
        cases hxx : ixN vs.length jj with
        | none => exact True.intro
        | some x =>
          refine ⟨E, S2.set n (.lst (fs.set x a)), W, ?_, c2.frm (by simp), r2.write hk h1 (lt_at j2) (j3.set (ra.up l2) x), Stp.of c2 r2.mw (frm_write hk h1)⟩
          simp [j2, j3.len, hxx]
      | _ => exact True.intro
/-- two slots at once -/
def uPar (i j : Nat) (as : List Arg) : UF := fun e => (uArgs as e).s fun os e1 => match os with
  | [some a, some b] => .nx ((e1.set i (some a)).set j (some b))
  | _ => .bad
def ArgV (a : Arg) : Bool := match a with | .val _ => true | _ => false
def ArgF (a : Arg) : Bool := match a with | .fresh _ => true | _ => false
theorem par_step {W0 L0 W S E e a d o i W1 Lb} (c : Ctx io W0 L0 own W S E) (r : Rel own W S E e) (ha : ARo own1 W S W1 Lb a d o) (hL : L0 ≤ Lb) (hnm : ∀ n, d = .ref n → a.kind = .fresh → ¬ Mine own E n) (hi : if ArgF a then i ∉ io else ArgV a = true ∧ i ∉ own) :
    ∃ u, o = some u ∧ Ctx io W0 L0 (if ArgF a then i :: own else own) W S (E.set i (some d)) ∧ Rel (if ArgF a then i :: own else own) W S (E.set i (some d)) (e.set i (some u)) := by
  cases a with
  | io k => exact absurd hi.1 (by simp [ArgV])
  | val q =>
    obtain ⟨u, rfl, h2⟩ := ha
    exact ⟨u, rfl, c.set hi.2, r.set hi.2 h2⟩
  | fresh q =>
    obtain ⟨n, fs, us, rfl, rfl, h3, h4, h5, h6⟩ := ha
    exact ⟨_, rfl, c.setO hi (Nat.le_trans hL h3), r.setO h4 h5 h6 (hnm n rfl rfl)⟩
theorem ss_par {i j l a1 a2} (h : SA own l [a1, a2]) (hx : (subB xo own && subB io xo) = true) (hi : if ArgF a1 then i ∉ io else ArgV a1 = true ∧ i ∉ own) (hj : if ArgF a2 then j ∉ io else ArgV a2 = true ∧ j ∉ (if ArgF a1 then i :: own else own)) (hio : i ∉ io ∧ j ∉ io) :
    SS md io lo xo own (if ArgF a2 then j :: (if ArgF a1 then i :: own else own) else (if ArgF a1 then i :: own else own)) (sPar i j l) (uPar i j [a1, a2]) := fun W0 L0 W S E e c r => by
  have h := h W S E e r
  unfold uPar sPar
  cases z : uArgs [a1, a2] e with
  | bad => trivial
  | exc cc gs e' =>
    rw [z] at h
    obtain ⟨fs, S', h1, h2, h3, h4⟩ := h
    rw [h1]
    exact exc_ok hx (c.frm h4.1) h3 h2 (Stp.of c r.mw h4)
  | ok os e' =>
    rw [z] at h
    obtain ⟨ds, W1, S1, h1, ar, r1, f1, w1, w2⟩ := h
    rw [h1]
    cases ar with
    | cons b1 b2 b3 t =>
      cases t with
      | cons b4 b5 b6 t2 =>
        cases t2
        rename_i d1 o1 L1 d2 o2 L2
        have c1 : Ctx io W0 L0 own W1 S1 E := ⟨fun n z => w1 n (c.a n z), c.b, c.d, c.c, c.f, Nat.le_trans c.g f1.1⟩
        have nm : ∀ (n : Nat), S.length ≤ n → ¬ Mine own E n := fun n hn m => by
          have := r.wf n (r.mw n m)
          omega
        obtain ⟨u1, rfl, c2, r2⟩ := par_step (i := i) c1 r1 b1 c.g (fun n hd hk => by
          cases a1 with
          | fresh q => obtain ⟨n', fs, us, k1, k2, k3, _⟩ := b1; rw [hd] at k2; cases k2; exact nm n k3
          | io _ => cases hk
          | val _ => cases hk) hi
        obtain ⟨u2, rfl, c3, r3⟩ := par_step (i := j) c2 r2 b4 (Nat.le_trans c.g b2) (fun n hd hk => by
          cases a2 with
          | io _ => cases hk
          | val _ => cases hk
          | fresh q =>
            obtain ⟨n', fs, us, k1, k2, k3, _⟩ := b4
            rw [hd] at k2
            cases k2
            rintro ⟨k, hk1, hk2⟩
            cases a1 with
            | io _ => exact absurd hi.1 (by simp [ArgV])
            | val q =>
              rw [set_other fun (z : i = k) => hi.2 (z ▸ hk1)] at hk2
              exact nm n (Nat.le_trans b2 k3) ⟨k, hk1, hk2⟩
            | fresh q =>
              by_cases hik : i = k
              · subst hik
                by_cases hl : i < E.length
                · rw [List.getElem?_set_self hl] at hk2
                  cases hk2
                  have := b3 q rfl n rfl
                  omega
                · rw [List.getElem?_eq_none (by simpa using hl)] at hk2; cases hk2
              · rw [set_other hik] at hk2
                exact nm n (Nat.le_trans b2 k3) ⟨k, (List.mem_cons.mp hk1).resolve_left fun z => hik z.symm, hk2⟩) hj
        refine ⟨_, S1, W1, rfl, c3, r3, fun k hk => ?_, f1.1, fun k cc a b => ?_, ?_⟩
        · rw [set_other fun (z : j = k) => hio.2 (z ▸ hk), set_other fun (z : i = k) => hio.1 (z ▸ hk)]
        · refine ⟨fun zz => (w2 k zz).elim a fun zz => ?_, (Up.frm r.mw f1 k cc a b).2⟩
          have := lt_at b
          omega
        · exact (Stp.of c r.mw f1).f
/-- x += e -/
def uAugI (i : Nat) (k : Int → Int → Int) (f : UE) : UF := fun e => match e[i]? with
  | some (some (.int a)) => (f e).s fun u e1 => (match u with
    | .int b => .nx (e1.set i (some (.int (k a b))))
    | _ => .bad)
  | _ => .bad
theorem ss_augI {i k f q} (h : SE own f q) (hx : (subB xo own && subB io xo) = true) (hi : decide (i ∉ own) = true) : SS md io lo xo own own (sAugI i k f) (uAugI i k q) := fun W0 L0 W S E e c r => by
  have hi := of_decide_eq_true hi
  unfold uAugI
  split
  · rename_i a ha
    obtain ⟨d, h1, h2⟩ := r.val i _ ha hi
    cases h2
    have e0 : sAugI i k f E S = (f E S).s E fun y S1 => match y with
      | .int b => .nx (E.set i (some (.int (k a b)))) S1
      | _ => .bad := by
      unfold sAugI
      rw [h1] <;> rfl
    rw [e0]
    refine SOk.bind hx c r (h W S E e r) fun a b S1 e1 ra r1 c1 l => ?_
    cases ra with
    | int b => exact ⟨_, S1, W, rfl, c1.set hi, r1.set hi (.int _), Stp.set c1 hi⟩
    | _ => trivial
  · trivial
/-- raise C(e) -/
def uRaise (c f : Str) (q : UE) : UF := fun e => (q e).s fun u e1 => .exc c [(f, u)] e1
theorem ss_raise {cc n f q} (h : SE own f q) (hx : (subB xo own && subB io xo) = true) : SS md io lo xo own own' (sRaise cc n f) (uRaise cc n q) := fun W0 L0 W S E e c r =>
  SOk.bind hx c r (h W S E e r) fun a b S1 e1 ra r1 c1 l => exc_ok hx c1 r1 (.cons ra .nil) Stp.refl
theorem Rel.unset {W S E e i} (r : Rel own W S E e) (hi : i ∉ own) : Rel own W S (E.set i none) (e.set i none) := by
  have n1 : Near [i] E (E.set i none) := ⟨by simp, fun j hj => set_other fun (z : i = j) => hj (by simp [z])⟩
  exact Rel.wipe (ws := [i]) r n1.symm fun j hj => by simp at hj; subst hj; exact hi
def uTry (b : UF) (caught : Str → Option Bool) (i : Nat) (suite : UF) : UF := fun e => match b e with
  | .exc c gs e1 => (match caught c with
    | some true => (match suite (e1.set i (some (.exc c gs))) with
      | .nx e2 => .nx (e2.set i none)
      | .brk e2 => .brk (e2.set i none)
      | .cnt e2 => .cnt (e2.set i none)
      | .ret u e2 => .ret u e2
      | _ => .bad)
    | some false => .exc c gs e1
    | none => .bad)
  | r => r
theorem ss_try {b q caught i suite p} (hb : SS md io lo own own own b q) (hs : SS md io lo xo own own suite p) (hx : (subB xo own && subB io xo) = true) (hi : decide (i ∉ own) = true) (hlo : decide (i ∉ lo) = true) (hio : decide (i ∉ io) = true) : SS md io lo xo own own (sTry b caught i suite) (uTry q caught i p) := fun W0 L0 W S E e c r => by
  have hi := of_decide_eq_true hi
  have hlo := of_decide_eq_true hlo
  have hio := of_decide_eq_true hio
  have h := hb W0 L0 W S E e c r
  unfold sTry uTry
  cases z : q e with
  | nx e' => rw [z] at h; obtain ⟨E', S', W', h1, h3⟩ := h; rw [h1]; exact ⟨E', S', W', rfl, h3⟩
  | brk e' => rw [z] at h; obtain ⟨E', S', W', h1, h3⟩ := h; rw [h1]; exact ⟨E', S', W', rfl, h3⟩
  | cnt e' => rw [z] at h; obtain ⟨E', S', W', h1, h3⟩ := h; rw [h1]; exact ⟨E', S', W', rfl, h3⟩
  | ret u e' => rw [z] at h; obtain ⟨fs, E', S', W', h1, h3⟩ := h; rw [h1]; exact ⟨fs, E', S', W', rfl, h3⟩
  | bad => trivial
  | exc cc gs e' =>
    rw [z] at h
    obtain ⟨fs, E1, S1, W1, h1, h2, h3, h4, h5⟩ := h
    rw [h1]
    dsimp only
    cases hc : caught cc with
    | none => trivial
    | some t =>
      cases t with
      | false => exact SOk.pre h5 (exc_ok hx h3 h4 h2 Stp.refl)
      | true =>
        dsimp only
        have r2 : Rel own W1 (S1 ++ [.exc cc fs]) (E1.set i (some (.ref S1.length))) (e'.set i (some (.exc cc gs))) :=
          (h4.app [.exc cc fs]).set hi (.exc (no_new h4.wf) (by simp) (h2.up Up.app))
        have c2 : Ctx io W0 L0 own W1 (S1 ++ [.exc cc fs]) (E1.set i (some (.ref S1.length))) := (h3.frm (by simp)).set hi
        have s2 : Stp io L0 W S E W1 (S1 ++ [.exc cc fs]) (E1.set i (some (.ref S1.length))) := h5.trans ⟨fun k hk => set_other fun (z : i = k) => hio (z ▸ hk), by simp, Up.app, fun n hn _ => List.getElem?_append_left (Nat.lt_of_lt_of_le hn h3.g)⟩
        have k := hs W0 L0 W1 _ _ _ c2 r2
        have su : ∀ {E2 : Ev}, Near [i] E2 (E2.set i none) := fun {E2} => ⟨by simp, fun j hj => set_other fun (z : i = j) => hj (by simp [z])⟩
        cases zs : p (e'.set i (some (.exc cc gs))) with
        | nx e2 =>
          rw [zs] at k
          obtain ⟨E', S', W', k1, k2, k3, k4⟩ := k
          rw [k1]
          exact ⟨_, S', W', rfl, k2.near su (fun j hj => by simp at hj; subst hj; exact hi), k3.unset hi, (s2.trans k4).trans (Stp.near k2 su fun j hj => by simp at hj; subst hj; exact hi)⟩
        | brk e2 =>
          rw [zs] at k
          obtain ⟨E', S', W', k1, k2, k3, k4⟩ := k
          rw [k1]
          exact ⟨_, S', W', rfl, k2.near su (fun j hj => by simp at hj; subst hj; exact hlo), k3.unset hlo, (s2.trans k4).trans (Stp.near k2 su fun j hj => by simp at hj; subst hj; exact hlo)⟩
        | cnt e2 =>
          rw [zs] at k
          obtain ⟨E', S', W', k1, k2, k3, k4⟩ := k
          rw [k1]
          exact ⟨_, S', W', rfl, k2.near su (fun j hj => by simp at hj; subst hj; exact hlo), k3.unset hlo, (s2.trans k4).trans (Stp.near k2 su fun j hj => by simp at hj; subst hj; exact hlo)⟩
        | ret u e2 =>
          rw [zs] at k
          obtain ⟨d, E', S', W', k1, k2, k3, k4, k5⟩ := k
          rw [k1]
          exact ⟨d, E', S', W', rfl, k2, k3, k4, s2.trans k5⟩
        | exc c2 g2 e2 => trivial
        | bad => trivial
/-! ## a def -/
def uRun (L : Nat) (b : UF) (us : List U) : UQ U := match b (us.map some ++ List.replicate (L - us.length) none) with
  | .nx e => .ok .non e
  | .ret u e => .ok u e
  | .exc c gs e => .exc c gs e
  | _ => .bad
def uRunF (L : Nat) (b : UF) (us : List U) : UQ U := match b (us.map some ++ List.replicate (L - us.length) none) with
  | .ret u e => .ok u e
  | .exc c gs e => .exc c gs e
  | _ => .bad
theorem sfn_run {L b q} (h : SS false io lo io io own' b q) (hs : subB io own' = true) : SFn io (runS L b) (uRun L q) := fun W S ds us r => by
  have len : ds.length = us.length := by simpa using r.len
  have atn : ∀ {α : Type} (l : List α) (n i : Nat) (x : α), (l.map some ++ List.replicate n none)[i]? = some (some x) → (l.map some)[i]? = some (some x) := fun l n i x h => by
    by_cases hi : i < (l.map some).length
    · rw [List.getElem?_append_left hi] at h; exact h
    · rw [List.getElem?_append_right (by omega)] at h
      have := List.mem_of_getElem? h
      simp at this
  have r1 : Rel io W S (ds.map some ++ List.replicate (L - ds.length) none) (us.map some ++ List.replicate (L - us.length) none) := by
    refine ⟨r.wf, by simp [len], fun i u a b => ?_, fun i u a b => ?_, fun n ⟨i, a, b⟩ => r.mw n ⟨i, a, atn _ _ _ _ b⟩, fun i j n a b c d => r.inj i j n a b (atn _ _ _ _ c) (atn _ _ _ _ d)⟩
    · obtain ⟨d, h1, h2⟩ := r.val i u (atn _ _ _ _ a) b
      exact ⟨d, by rw [List.getElem?_append_left (lt_at' h1)]; exact h1, h2⟩
    · obtain ⟨n, fs, vs, h1, h2, h3⟩ := r.ow i u (atn _ _ _ _ a) b
      exact ⟨n, fs, vs, h1, by rw [List.getElem?_append_left (lt_at' h2)]; exact h2, h3⟩
  have c : Ctx io W S.length io W S (ds.map some ++ List.replicate (L - ds.length) none) := ⟨fun _ z => z, fun i n a b => absurd a b, fun _ z => z, fun i n a b => r1.mw n ⟨i, a, b⟩, r.wf, Nat.le_refl _⟩
  have k := h W S.length W S _ _ c r1
  have fin : ∀ (W' : WP) (S' : Sto) (E' : Ev) (e' : UV) (ow : List Nat), (∀ i, i ∈ io → i ∈ ow) → Ctx io W S.length ow W' S' E' → Rel ow W' S' E' e' → Stp io S.length W S (ds.map some ++ List.replicate (L - ds.length) none) W' S' E' → Back io W S' ds e' ∧ Frm (Mine io (ds.map some)) S S' := fun W' S' E' e' ow hio c' r' st => by
    refine ⟨fun j hj u hu => ?_, st.l, fun n hn hm => st.f n hn fun ⟨i, a, b⟩ => hm ⟨i, a, atn _ _ _ _ b⟩⟩
    obtain ⟨n, fs, vs, h1, h2, h3, h4⟩ := r'.ow j u (join_some hu) (hio j hj)
    rw [st.e j hj] at h2
    have h5 := atn _ _ _ _ h2
    rw [List.getElem?_map] at h5
    refine ⟨n, fs, vs, h1, ?_, h3, h4.up (Up.anti c'.a)⟩
    cases zz : ds[j]? with
    | none => simp [zz] at h5
    | some v => simp [zz] at h5; rw [h5]
  unfold runS uRun
  cases z : q (us.map some ++ List.replicate (L - us.length) none) with
  | nx e' =>
    rw [z] at k
    obtain ⟨E', S', W', k1, k2, k3, k4⟩ := k
    rw [k1]
    obtain ⟨f1, f2⟩ := fin W' S' E' e' own' (subB_ok hs) k2 k3 k4
    exact ⟨.non, S', rfl, .non, f1, f2⟩
  | ret u e' =>
    rw [z] at k
    obtain ⟨d, E', S', W', k1, k2, k3, k4, k5⟩ := k
    rw [k1]
    obtain ⟨f1, f2⟩ := fin W' S' E' e' io (fun _ z => z) k3 k4 k5
    exact ⟨d, S', rfl, k2.up (Up.anti k3.a), f1, f2⟩
  | exc cc gs e' =>
    rw [z] at k
    obtain ⟨fs, E', S', W', k1, k2, k3, k4, k5⟩ := k
    rw [k1]
    obtain ⟨f1, f2⟩ := fin W' S' E' e' io (fun _ z => z) k3 k4 k5
    exact ⟨fs, S', rfl, k2.up (Up.anti k3.a), f1, f2⟩
  | brk e' => trivial
  | cnt e' => trivial
  | bad => trivial
theorem sfn_runF {L b q} (h : SS true io lo io io own' b q) (hs : subB io own' = true) : SFnF io (runS L b) (uRunF L q) := fun W S ds us r => by
  have len : ds.length = us.length := by simpa using r.len
  have atn : ∀ {α : Type} (l : List α) (n i : Nat) (x : α), (l.map some ++ List.replicate n none)[i]? = some (some x) → (l.map some)[i]? = some (some x) := fun l n i x h => by
    by_cases hi : i < (l.map some).length
    · rw [List.getElem?_append_left hi] at h; exact h
    · rw [List.getElem?_append_right (by omega)] at h
      have := List.mem_of_getElem? h
      simp at this
  have r1 : Rel io W S (ds.map some ++ List.replicate (L - ds.length) none) (us.map some ++ List.replicate (L - us.length) none) := by
    refine ⟨r.wf, by simp [len], fun i u a b => ?_, fun i u a b => ?_, fun n ⟨i, a, b⟩ => r.mw n ⟨i, a, atn _ _ _ _ b⟩, fun i j n a b c d => r.inj i j n a b (atn _ _ _ _ c) (atn _ _ _ _ d)⟩
    · obtain ⟨d, h1, h2⟩ := r.val i u (atn _ _ _ _ a) b
      exact ⟨d, by rw [List.getElem?_append_left (lt_at' h1)]; exact h1, h2⟩
    · obtain ⟨n, fs, vs, h1, h2, h3⟩ := r.ow i u (atn _ _ _ _ a) b
      exact ⟨n, fs, vs, h1, by rw [List.getElem?_append_left (lt_at' h2)]; exact h2, h3⟩
  have c : Ctx io W S.length io W S (ds.map some ++ List.replicate (L - ds.length) none) := ⟨fun _ z => z, fun i n a b => absurd a b, fun _ z => z, fun i n a b => r1.mw n ⟨i, a, b⟩, r.wf, Nat.le_refl _⟩
  have k := h W S.length W S _ _ c r1
  have fin : ∀ (W' : WP) (S' : Sto) (E' : Ev) (e' : UV) (ow : List Nat), (∀ i, i ∈ io → i ∈ ow) → Ctx io W S.length ow W' S' E' → Rel ow W' S' E' e' → Stp io S.length W S (ds.map some ++ List.replicate (L - ds.length) none) W' S' E' → Back io W S' ds e' ∧ Frm (Mine io (ds.map some)) S S' := fun W' S' E' e' ow hio c' r' st => by
    refine ⟨fun j hj u hu => ?_, st.l, fun n hn hm => st.f n hn fun ⟨i, a, b⟩ => hm ⟨i, a, atn _ _ _ _ b⟩⟩
    obtain ⟨n, fs, vs, h1, h2, h3, h4⟩ := r'.ow j u (join_some hu) (hio j hj)
    rw [st.e j hj] at h2
    have h5 := atn _ _ _ _ h2
    rw [List.getElem?_map] at h5
    refine ⟨n, fs, vs, h1, ?_, h3, h4.up (Up.anti c'.a)⟩
    cases zz : ds[j]? with
    | none => simp [zz] at h5
    | some v => simp [zz] at h5; rw [h5]
  unfold runS uRunF
  cases z : q (us.map some ++ List.replicate (L - us.length) none) with
  | nx e' => trivial
  | ret u e' =>
    rw [z] at k
    obtain ⟨d, E', S', W', k1, ⟨n, fs, vs, rfl, rfl, g1, g2, g3, g4⟩, k3, k4, k5⟩ := k
    rw [k1]
    obtain ⟨f1, f2⟩ := fin W' S' E' e' io (fun _ z => z) k3 k4 k5
    refine ⟨n, fs, vs, S', rfl, rfl, g1, g2, g3.up (Up.anti fun k z => z.imp (k3.a k) id), fun j hj u hu => ?_, f2, fun k z => g4.wf k (z.imp (k3.a k) id)⟩
    obtain ⟨m, gs, ws, h1, h2, h3, h4⟩ := g4.ow j u (join_some hu) hj
    obtain ⟨m', gs', ws', h1', h2', h3', h4'⟩ := f1 j hj u hu
    rw [k5.e j hj] at h2
    have h5 := atn _ _ _ _ h2
    rw [List.getElem?_map] at h5
    refine ⟨m, gs, ws, h1, ?_, h3, h4.up (Up.anti fun k z => z.imp (k3.a k) id)⟩
    cases zz : ds[j]? with
    | none => simp [zz] at h5
    | some v => simp [zz] at h5; rw [h5]
  | exc cc gs e' =>
    rw [z] at k
    obtain ⟨fs, E', S', W', k1, k2, k3, k4, k5⟩ := k
    rw [k1]
    obtain ⟨f1, f2⟩ := fin W' S' E' e' io (fun _ z => z) k3 k4 k5
    exact ⟨fs, S', rfl, k2.up (Up.anti k3.a), f1, f2⟩
  | brk e' => trivial
  | cnt e' => trivial
  | bad => trivial
theorem sfn_badF {F : List D → Sto → Res} : SFnF io F fun _ => .bad := fun W S ds us r => trivial
theorem sfn_bad {F : List D → Sto → Res} : SFn io F fun _ => .bad := fun W S ds us r => trivial
end
end Z
namespace Z
open PySem PySem.Spec PyProof.Rows L2
/-! ## operations over values -/
theorem nil_ok {W S d u} {r : Res} (h : r = .ok d S) (q : Rp W S d u) : ∃ x T, r = .ok x (S ++ T) ∧ Rp W (S ++ T) x u := ⟨d, [], by rw [h, List.append_nil], by rw [List.append_nil]; exact q⟩
theorem new_ok {W : WP} {S ds us} {r : Res} (wf : Wf W S) (h : r = .ok (.ref S.length) (S ++ [.lst ds])) (q : Rps W S ds us) : ∃ x T, r = .ok x (S ++ T) ∧ Rp W (S ++ T) x (.lst us) := ⟨_, _, h, Rp.newL wf q⟩
def uAdd (u v : U) : Option U := match u, v with
  | .int i, .int j => some (.int (i + j))
  | .str x, .str y => if x.length + y.length ≤ sizeLine then some (.str (x ++ y)) else none
  | .tup xs, .tup ys => if xs.length + ys.length ≤ 1000 then some (.tup (xs ++ ys)) else none
  | .lst xs, .lst ys => if xs.length + ys.length ≤ 100000 then some (.lst (xs ++ ys)) else none
  | _, _ => none
theorem q_add : G2 gAdd uAdd := fun W S d d2 u v r wf h1 h2 e => by
  unfold uAdd at e
  split at e
  · cases e; rw [h1.int, h2.int]; exact nil_ok rfl (.int _)
  · split at e
    · rename_i hz
      cases e; rw [h1.str, h2.str]; exact nil_ok (if_pos hz) (.str _)
    · cases e
  · split at e
    · rename_i hz
      cases e
      obtain ⟨a, rfl, r1⟩ := h1.tup
      obtain ⟨b, rfl, r2⟩ := h2.tup
      exact nil_ok (by simp [gAdd, r1.len, r2.len, hz]) (.tup (r1.app r2))
    · cases e
  · split at e
    · rename_i hz
      cases e
      obtain ⟨n, a, rfl, e1, r1⟩ := h1.lst
      obtain ⟨m, b, rfl, e2, r2⟩ := h2.lst
      exact new_ok (ds := a ++ b) wf (by simp [gAdd, e1, e2, r1.len, r2.len, hz]) (r1.app r2)
    · cases e
  · cases e
def uSub2 (u v : U) : Option U := match u, v with
  | .int i, .int j => some (.int (i - j))
  | _, _ => none
theorem q_sub : G2 gSub uSub2 := fun W S d d2 u v r wf h1 h2 e => by
  unfold uSub2 at e
  split at e
  · cases e; rw [h1.int, h2.int]; exact nil_ok rfl (.int _)
  · cases e
def uMul (u v : U) : Option U := match u, v with
  | .int i, .int j => if i.natAbs.log2 + j.natAbs.log2 < 1000000 then some (.int (i * j)) else none
  | .lst xs, .int k => if 0 ≤ k ∧ k ≤ 1000 ∧ xs.length ≤ 1000 then some (.lst (List.replicate k.toNat xs).flatten) else none
  | .str x, .int k => if 0 ≤ k ∧ k ≤ 1000 ∧ x.length ≤ 1000 then some (.str (strRep x k)) else none
  | .tup xs, .int k => if 2 ≤ k ∧ k ≤ 1000 ∧ xs.length ≤ 1000 ∧ 0 < xs.length then some (.tup (List.replicate k.toNat xs).flatten) else none
  | _, _ => none
theorem q_mul : G2 gMul uMul := fun W S d d2 u v r wf h1 h2 e => by
  unfold uMul at e
  split at e
  · split at e
    · rename_i hz
      cases e; rw [h1.int, h2.int]; exact nil_ok (if_pos hz) (.int _)
    · cases e
  · split at e
    · rename_i hz
      cases e
      obtain ⟨n, a, rfl, e1, r1⟩ := h1.lst
      rw [h2.int]
      exact new_ok wf (by simp [gMul, e1, r1.len, hz]) (r1.flat _)
    · cases e
  · split at e
    · rename_i hz
      cases e; rw [h1.str, h2.int]; exact nil_ok (if_pos hz) (.str _)
    · cases e
  · split at e
    · rename_i hz
      cases e
      obtain ⟨ds, rfl, r1⟩ := h1.tup
      rw [h2.int]
      exact nil_ok (if_pos (by rw [r1.len]; exact hz)) (.tup (r1.flat _))
    · cases e
  · cases e
def uDiv (u v : U) : Option U := match u, v with
  | .int i, .int j => if j ≠ 0 ∧ j.natAbs.log2 < 9000 then some (.int (i.fdiv j)) else none
  | _, _ => none
theorem q_div : G2 gDiv uDiv := fun W S d d2 u v r wf h1 h2 e => by
  unfold uDiv at e
  split at e
  · split at e
    · rename_i hz
      cases e; rw [h1.int, h2.int]; exact nil_ok (if_pos hz) (.int _)
    · cases e
  · cases e
def uMod (u v : U) : Option U := match u, v with
  | .int i, .int j => if 0 < j then some (.int (i % j)) else none
  | _, _ => none
theorem q_mod : G2 gMod uMod := fun W S d d2 u v r wf h1 h2 e => by
  unfold uMod at e
  split at e
  · split at e
    · rename_i hz
      cases e; rw [h1.int, h2.int]; exact nil_ok (if_pos hz) (.int _)
    · cases e
  · cases e
def uPow (u v : U) : Option U := match u, v with
  | .int i, .int j => if 0 ≤ j ∧ j ≤ 1000000 ∧ i.natAbs < 2 ^ 64 then some (.int (i ^ j.toNat)) else none
  | _, _ => none
theorem q_pow : G2 gPow uPow := fun W S d d2 u v r wf h1 h2 e => by
  unfold uPow at e
  split at e
  · split at e
    · rename_i hz
      cases e; rw [h1.int, h2.int]; exact nil_ok (if_pos hz) (.int _)
    · cases e
  · cases e
def uNeg (u : U) : Option U := match u with
  | .int i => some (.int (-i))
  | _ => none
theorem q_neg : G1 gNeg uNeg := fun W S d u r wf h1 e => by
  unfold uNeg at e
  split at e
  · cases e; rw [h1.int]; exact nil_ok rfl (.int _)
  · cases e
def uCmpI (p : Int → Int → Bool) (u v : U) : Option U := match u, v with
  | .int i, .int j => some (.bl (p i j))
  | _, _ => none
abbrev uLt := uCmpI fun i j => decide (i < j)
abbrev uLe := uCmpI fun i j => decide (i ≤ j)
abbrev uGt := uCmpI fun i j => decide (j < i)
abbrev uGe := uCmpI fun i j => decide (j ≤ i)
theorem q_cmpI {p} : G2 (gCmpI p) (uCmpI p) := fun W S d d2 u v r wf h1 h2 e => by
  unfold uCmpI at e
  split at e
  · cases e; rw [h1.int, h2.int]; exact nil_ok rfl (.bl _)
  · cases e
theorem q_lt : G2 gLt uLt := q_cmpI
theorem q_le : G2 gLe uLe := q_cmpI
theorem q_gt : G2 gGt uGt := q_cmpI
theorem q_ge : G2 gGe uGe := q_cmpI
/-! ### as a whole -/
def toPU : Nat → U → Option PyData
  | 0, _ => none
  | k + 1, d => match d with
    | .non => some .none
    | .bl b => some (.bool b)
    | .int i => some (.int i)
    | .str x => some (.str x)
    | .tup xs => (optAll (toPU k) xs).map .tuple
    | .fl xs => (optAll (toPU k) xs).map .list
    | .lst xs => (optAll (toPU k) xs).map .list
    | .emp => some (.dict [])
    | .exc _ _ => none
theorem toPU_all {W S} {f : D → Option PyData} {g : U → Option PyData} (h : ∀ d u, Rp W S d u → ∀ p, g u = some p → f d = some p) : ∀ {ds : List D} {us : List U} {ps : List PyData}, Rps W S ds us → optAll g us = some ps → optAll f ds = some ps
  | _, _, ps, .nil, e => e
  | _, _, ps, .cons (u := u) (us := us) r t, e => by
    unfold optAll at e ⊢
    cases e1 : g u with
    | none => simp [e1] at e
    | some p =>
      cases e2 : optAll g us with
      | none => simp [e1, e2] at e
      | some qs =>
        simp [e1, e2] at e
        rw [h _ _ r p e1, toPU_all h t e2]
        simp [e]
theorem toPU_ok : ∀ (k : Nat) {W S d u p}, RpT W S d u → toPU k u = some p → toPD S k d = some p
  | 0, _, _, _, _, _, _, e => by cases e
  | k + 1, W, S, d, u, p, h, e => by
    have ih : ∀ {us : List U} {ds : List D} {p : PyData} {f : List PyData → PyData}, Rps W S ds us → (optAll (toPU k) us).map f = some p → (optAll (toPD S k) ds).map f = some p := fun {us ds p f} r e => by
      cases z : optAll (toPU k) us with
      | none => simp [z] at e
      | some ps =>
        rw [z] at e
        rw [toPU_all (fun d u r p e => toPU_ok k (.inl r) e) r z]
        exact e
    cases u with
    | non => rw [h.non]; exact e
    | bl b => rw [h.bl]; exact e
    | int b => rw [h.int]; exact e
    | str b => rw [h.str]; exact e
    | emp => rw [h.emp]; exact e
    | tup us => obtain ⟨ds, rfl, r⟩ := h.tup; exact ih r e
    | fl us => obtain ⟨ds, rfl, r⟩ := h.fl; exact ih r e
    | lst us =>
      obtain ⟨n, ds, rfl, hs, r⟩ := h.lst
      show (match S[n]? with | some (.lst xs) => (optAll (toPD S k) xs).map PyData.list | _ => none) = some p
      rw [hs]
      exact ih r e
    | exc c gs => cases e
def uEqD (u v : U) : Option U := match toPU 60 u, toPU 60 v with
  | some p, some q => if SeqAt.shaped p && SeqAt.shaped q then some (.bl (PyData.eqv p q)) else none
  | _, _ => none
def uNeD (u v : U) : Option U := match toPU 60 u, toPU 60 v with
  | some p, some q => if SeqAt.shaped p && SeqAt.shaped q then some (.bl (!PyData.eqv p q)) else none
  | _, _ => none
def uEq (u v : U) : Option U := match u, v with
  | .str x, .str y => some (.bl (x == y))
  | u, v => uEqD u v
def uNe (u v : U) : Option U := match u, v with
  | .str x, .str y => some (.bl (!(x == y)))
  | u, v => uNeD u v
theorem q_eqD {W S d d2 u v r} (h1 : RpT W S d u) (h2 : RpT W S d2 v) (e : uEqD u v = some r) : ∃ x T, gEqD d d2 S = .ok x (S ++ T) ∧ Rp W (S ++ T) x r := by
  unfold uEqD at e
  cases e1 : toPU 60 u with
  | none => simp [e1] at e
  | some p =>
    cases e2 : toPU 60 v with
    | none => simp [e1, e2] at e
    | some q =>
      simp only [e1, e2] at e
      split at e
      · rename_i hz
        cases e
        refine nil_ok ?_ (.bl _)
        unfold gEqD
        rw [toPU_ok 60 h1 e1, toPU_ok 60 h2 e2]
        exact if_pos hz
      · cases e
theorem q_neD {W S d d2 u v r} (h1 : RpT W S d u) (h2 : RpT W S d2 v) (e : uNeD u v = some r) : ∃ x T, gNeD d d2 S = .ok x (S ++ T) ∧ Rp W (S ++ T) x r := by
  unfold uNeD at e
  cases e1 : toPU 60 u with
  | none => simp [e1] at e
  | some p =>
    cases e2 : toPU 60 v with
    | none => simp [e1, e2] at e
    | some q =>
      simp only [e1, e2] at e
      split at e
      · rename_i hz
        cases e
        refine nil_ok ?_ (.bl _)
        unfold gNeD
        rw [toPU_ok 60 h1 e1, toPU_ok 60 h2 e2]
        exact if_pos hz
      · cases e
theorem notStr {W S d u} (h : RpT W S d u) (n : ∀ x, u ≠ .str x) : ∀ x, d ≠ .str x := fun x z => by
  subst z
  rcases h with h | ⟨_, _, _, h, _⟩
  · cases h; exact n x rfl
  · cases h
theorem q_eq : G2 gEq uEq := fun W S d d2 u v r wf h1 h2 e => by
  unfold uEq at e
  split at e
  · cases e; rw [h1.str, h2.str]; exact nil_ok rfl (.bl _)
  · rename_i hn
    have : gEq d d2 S = gEqD d d2 S := by
      unfold gEq
      split
      · rename_i x y
        cases u with
        | str x' =>
          cases v with
          | str y' => exact absurd rfl (hn x' y' rfl)
          | _ => exact absurd rfl (notStr h2 (by intro z q; cases q) _)
        | _ => exact absurd rfl (notStr h1 (by intro z q; cases q) _)
      · rfl
    rw [this]
    exact q_eqD h1 h2 e
theorem q_ne : G2 gNe uNe := fun W S d d2 u v r wf h1 h2 e => by
  unfold uNe at e
  split at e
  · cases e; rw [h1.str, h2.str]; exact nil_ok rfl (.bl _)
  · rename_i hn
    have : gNe d d2 S = gNeD d d2 S := by
      unfold gNe
      split
      · rename_i x y
        cases u with
        | str x' =>
          cases v with
          | str y' => exact absurd rfl (hn x' y' rfl)
          | _ => exact absurd rfl (notStr h2 (by intro z q; cases q) _)
        | _ => exact absurd rfl (notStr h1 (by intro z q; cases q) _)
      · rfl
    rw [this]
    exact q_neD h1 h2 e
def uInP (neg : Bool) (u v : U) : Option U := match toPU 60 u, toPU 60 v with
  | some p, some (.tuple ps) => if SeqAt.shaped p && SeqAt.shaped (.tuple ps) then some (.bl (if neg then !(ps.any fun z => PyData.eqv z p) else ps.any fun z => PyData.eqv z p)) else none
  | some p, some (.list ps) => if SeqAt.shaped p && SeqAt.shaped (.list ps) then some (.bl (if neg then !(ps.any fun z => PyData.eqv z p) else ps.any fun z => PyData.eqv z p)) else none
  | _, _ => none
theorem q_inP {neg} : G2 (gInP neg) (uInP neg) := fun W S d d2 u v r wf h1 h2 e => by
  unfold uInP at e
  split at e
  · rename_i p ps e1 e2
    split at e
    · rename_i hz
      cases e
      refine nil_ok ?_ (.bl _)
      unfold gInP
      rw [toPU_ok 60 h1 e1, toPU_ok 60 h2 e2]
      exact if_pos hz
    · cases e
  · rename_i p ps e1 e2
    split at e
    · rename_i hz
      cases e
      refine nil_ok ?_ (.bl _)
      unfold gInP
      rw [toPU_ok 60 h1 e1, toPU_ok 60 h2 e2]
      exact if_pos hz
    · cases e
  · cases e
def uRepr (u : U) : Option U := match toPU 40 u with
  | some p => if p.showable && (!p.hasDict || noList p) && decide (p.depth ≤ 60) && decide (p.shown.length ≤ sizeLine) then some (.str p.shown) else none
  | none => none
theorem q_repr : GC1 gRepr uRepr := fun W S d u r wf h e => by
  unfold uRepr at e
  split at e
  · rename_i p e1
    split at e
    · rename_i hz
      cases e
      refine nil_ok ?_ (.str _)
      unfold gRepr
      simp only [toPU_ok 40 h e1]
      exact if_pos hz
    · cases e
  · cases e
/-! ### rows -/
theorem seq_u {W S d u us} (h : RpT W S d u) (e : uItems u = some us) : ∃ ds, seqOf S d = some ds ∧ Rps W S ds us := by
  cases u with
  | tup xs => cases e; obtain ⟨ds, rfl, r⟩ := h.tup; exact ⟨ds, rfl, r⟩
  | fl xs => cases e; obtain ⟨ds, rfl, r⟩ := h.fl; exact ⟨ds, rfl, r⟩
  | lst xs => cases e; obtain ⟨n, ds, rfl, hs, r⟩ := h.lst; exact ⟨ds, by simp [seqOf, listOf, hs], r⟩
  | _ => cases e
def uList? : U → Option (List U)
  | .fl us => some us
  | .lst us => some us
  | _ => none
theorem list_u {W S d u us} (h : RpT W S d u) (e : uList? u = some us) : ∃ ds, listOf S d = some ds ∧ Rps W S ds us := by
  cases u with
  | fl xs => cases e; obtain ⟨ds, rfl, r⟩ := h.fl; exact ⟨ds, rfl, r⟩
  | lst xs => cases e; obtain ⟨n, ds, rfl, hs, r⟩ := h.lst; exact ⟨ds, by simp [listOf, hs], r⟩
  | _ => cases e
theorem Rps.atI {W S ds us i u} (h : Rps W S ds us) (e : L2.atI us i = some u) : ∃ d, L2.atI ds i = some d ∧ Rp W S d u := by
  unfold L2.atI at e ⊢
  rw [h.len]
  cases z : ixN us.length i with
  | none => simp [z] at e
  | some j => simp [z] at e; exact h.at e
def uIx (u v : U) : Option U := match v with
  | .int i => (match u with
    | .str z => if z.length ≤ sizeLine then (match L2.atI z.cps.toList i with
      | some c => some (.str ⟨#[c]⟩)
      | none => none) else none
    | u => (uItems u).bind fun us => L2.atI us i)
  | _ => none
theorem q_ix : G2 gIx uIx := fun W S d d2 u v r wf h1 h2 e => by
  unfold uIx at e
  split at e
  · rename_i i
    rw [h2.int]
    split at e
    · rename_i z
      rw [h1.str]
      split at e
      · rename_i hz
        split at e
        · rename_i c hc
          cases e
          exact nil_ok (by simp [gIx, hz, hc]) (.str _)
        · cases e
      · cases e
    · rename_i hn
      cases e1 : uItems u with
      | none => simp [e1] at e
      | some us =>
        simp [e1] at e
        obtain ⟨ds, s1, s2⟩ := seq_u h1 e1
        obtain ⟨x, a1, a2⟩ := s2.atI e
        refine nil_ok ?_ a2
        unfold gIx
        split
        · rename_i i' hi
          cases hi
          split
          · exact absurd rfl (notStr h1 (fun x q => hn x q) _)
          · rw [s1]; simp [a1]
        · rename_i hx; exact absurd rfl (hx i)
  · cases e
theorem Rps.cut {W S} {ds : List D} {us : List U} (h : Rps W S ds us) (lo hi : Option Int) : Rps W S (cutL ds lo hi) (cutL us lo hi) := by
  unfold cutL
  rw [h.len]
  exact (h.drop _).take _
def uSlc (u : U) (lo hi : Option Int) : Option U := match u with
  | .str z => if z.length ≤ sizeLine then some (.str (cutS z lo hi)) else none
  | .tup us => some (.tup (cutL us lo hi))
  | .fl us => some (.lst (cutL us lo hi))
  | .lst us => some (.lst (cutL us lo hi))
  | _ => none
def uPart : U → Option (Option Int)
  | .non => some none
  | .int i => some (some i)
  | _ => none
/-- xs[lo:hi] -/
def uSl (o : Opd) (lo hi : UE) : UE := fun e => (o.run e).bind fun a e1 => (lo e1).bind fun x e2 => match uPart x with
  | none => .bad
  | some i => (hi e2).bind fun y e3 => match uPart y with
    | none => .bad
    | some j => (match o.get a e3 with
      | some u => uRet (uSlc u i j) e3
      | none => .bad)
theorem part_ok {W S d u} (h : Rp W S d u) : oPart d = uPart u := by cases h <;> rfl
theorem su_sl {own f o lo hi ql qh} (h1 : SO own f o) (h2 : SE own lo ql) (h3 : SE own hi qh) : SE own (vSl f lo hi) (uSl o ql qh) := fun W S E e r => by
  unfold vSl uSl
  rw [Res.q_bind]
  refine QOk.bind (h1 W S E e r) fun a b S1 e1 ra r1 l1 => ?_
  rw [Res.q_bind]
  refine QOk.bind (h2 W S1 E e1 r1) fun a2 b2 S2 e2 ra2 r2 l2 => ?_
  rw [part_ok ra2]
  cases hp : uPart b2 with
  | none => exact QOk.bad
  | some i =>
    dsimp only
    rw [Res.q_bind]
    refine QOk.bind (h3 W S2 E e2 r2) fun a3 b3 S3 e3 ra3 r3 l3 => ?_
    rw [part_ok ra3]
    cases hp : uPart b3 with
    | none => exact QOk.bad
    | some j =>
      dsimp only
      cases hu : o.get b e3 with
      | none => exact QOk.bad
      | some u =>
        have rt := ((ra.up l2).up l3).get r3 hu
        refine ret_op r3 fun z hz => ?_
        cases u with
        | str w =>
          rw [rt.str]
          unfold uSlc at hz
          dsimp only at hz
          split at hz
          · rename_i hl; cases hz; exact nil_ok (if_pos hl) (.str _)
          · cases hz
        | tup us => cases hz; obtain ⟨ds, rfl, q⟩ := rt.tup; exact nil_ok rfl (.tup (q.cut _ _))
        | fl us => cases hz; obtain ⟨ds, rfl, q⟩ := rt.fl; exact new_ok r3.wf rfl (q.cut _ _)
        | lst us =>
          cases hz
          obtain ⟨n, ds, rfl, hs, q⟩ := rt.lst
          exact new_ok r3.wf (by simp [gSl, listOf, hs]) (q.cut i j)
        | _ => cases hz
def uInt1 (q : UE) : UE := fun e => (q e).bind fun u e1 => match u with
  | .int _ => .ok u e1
  | _ => .bad
theorem su_int {own f q} (h : SE own f q) : SE own (vInt f) (uInt1 q) := fun W S E e r => by
  unfold vInt uInt1
  rw [Res.q_bind]
  refine QOk.bind (h W S E e r) fun a b S1 e1 ra r1 l1 => ?_
  cases ra with
  | int i => exact QOk.ret0 (.int i) r1
  | _ => exact QOk.bad
def uLen (u : U) : Option U := match u with
  | .str z => if z.length ≤ sizeLine then some (.int z.length) else none
  | u => (uItems u).map fun us => .int us.length
theorem q_len : GC1 gLen uLen := fun W S d u r wf h e => by
  unfold uLen at e
  split at e
  · rw [h.str]
    split at e
    · rename_i hz; cases e; exact nil_ok (if_pos hz) (.int _)
    · cases e
  · rename_i hn
    cases e1 : uItems u with
    | none => simp [e1] at e
    | some us =>
      simp [e1] at e
      subst e
      obtain ⟨ds, s1, s2⟩ := seq_u h e1
      refine nil_ok (d := .int ds.length) ?_ (by rw [s2.len]; exact .int _)
      show gLen [d] S = _
      unfold gLen
      split
      · rename_i z hz; cases hz; exact absurd rfl (notStr h (fun x q => hn x q) _)
      · rename_i d' _ hz; cases hz; rw [s1]
      · rename_i hx; exact absurd rfl (hx d)
def uAbs (u : U) : Option U := match u with
  | .int i => some (.int (if i < 0 then -i else i))
  | _ => none
theorem q_abs : GC1 gAbs uAbs := fun W S d u r wf h e => by
  unfold uAbs at e
  split at e
  · cases e; rw [h.int]; exact nil_ok rfl (.int _)
  · cases e
def uToInt (u : U) : Option U := match u with
  | .int i => some (.int i)
  | .bl k => some (.int (if k then 1 else 0))
  | .str a => (match PySem.intText? a with
    | some n => if a.length ≤ 640 then some (.int n) else none
    | none => none)
  | _ => none
theorem q_int : GC1 gInt uToInt := fun W S d u r wf h e => by
  unfold uToInt at e
  split at e
  · cases e; rw [h.int]; exact nil_ok rfl (.int _)
  · cases e; rw [h.bl]; exact nil_ok rfl (.int _)
  · rw [h.str]
    split at e
    · rename_i n hn
      split at e
      · rename_i hz; cases e; exact nil_ok (by simp [gInt, hn, hz]) (.int _)
      · cases e
    · cases e
  · cases e
def uToStr (u : U) : Option U := match u with
  | .int i => if i.natAbs.log2 < 1920 then some (.str (toString i)) else none
  | .str a => some (.str a)
  | _ => none
theorem q_str : GC1 gStr uToStr := fun W S d u r wf h e => by
  unfold uToStr at e
  split at e
  · rw [h.int]
    split at e
    · rename_i hz; cases e; exact nil_ok (if_pos hz) (.str _)
    · cases e
  · cases e; rw [h.str]; exact nil_ok rfl (.str _)
  · cases e
def blsU : List U → Option (List Bool)
  | [] => some []
  | .bl i :: r => (blsU r).map (i :: ·)
  | _ => none
def intsU : List U → Option (List Int)
  | [] => some []
  | .int i :: r => (intsU r).map (i :: ·)
  | _ => none
theorem bls_ok {W S} : ∀ {ds : List D} {us : List U} {bs}, Rps W S ds us → blsU us = some bs → blsOf ds = some bs
  | _, _, _, .nil, e => e
  | _, _, bs, .cons (u := u) (us := us) r t, e => by
    cases r with
    | bl b =>
      unfold blsU at e
      cases z : blsU us with
      | none => simp [z] at e
      | some cs => simp [z] at e; simp [blsOf, bls_ok t z, e]
    | _ => cases e
theorem ints_ok {W S} : ∀ {ds : List D} {us : List U} {bs}, Rps W S ds us → intsU us = some bs → intsOf ds = some bs
  | _, _, _, .nil, e => e
  | _, _, bs, .cons (u := u) (us := us) r t, e => by
    cases r with
    | int b =>
      unfold intsU at e
      cases z : intsU us with
      | none => simp [z] at e
      | some cs => simp [z] at e; simp [intsOf, ints_ok t z, e]
    | _ => cases e
def uAll (u : U) : Option U := (uList? u).bind fun us => (blsU us).map fun bs => .bl (bs.all id)
def uAny (u : U) : Option U := (uList? u).bind fun us => (blsU us).map fun bs => .bl (bs.any id)
def uSum (u : U) : Option U := (uList? u).bind fun us => (intsU us).map fun bs => .int bs.sum
theorem q_all : GC1 gAll uAll := fun W S d u r wf h e => by
  unfold uAll at e
  cases e1 : uList? u with
  | none => simp [e1] at e
  | some us =>
    cases e2 : blsU us with
    | none => simp [e1, e2] at e
    | some bs =>
      simp [e1, e2] at e
      subst e
      obtain ⟨ds, s1, s2⟩ := list_u h e1
      exact nil_ok (by simp [gAll, s1, bls_ok s2 e2]) (.bl _)
theorem q_any : GC1 gAny uAny := fun W S d u r wf h e => by
  unfold uAny at e
  cases e1 : uList? u with
  | none => simp [e1] at e
  | some us =>
    cases e2 : blsU us with
    | none => simp [e1, e2] at e
    | some bs =>
      simp [e1, e2] at e
      subst e
      obtain ⟨ds, s1, s2⟩ := list_u h e1
      exact nil_ok (by simp [gAny, s1, bls_ok s2 e2]) (.bl _)
theorem q_sum : GC1 gSum uSum := fun W S d u r wf h e => by
  unfold uSum at e
  cases e1 : uList? u with
  | none => simp [e1] at e
  | some us =>
    cases e2 : intsU us with
    | none => simp [e1, e2] at e
    | some bs =>
      simp [e1, e2] at e
      subst e
      obtain ⟨ds, s1, s2⟩ := list_u h e1
      exact nil_ok (by simp [gSum, s1, ints_ok s2 e2]) (.int _)
def uMax2 (u v : U) : Option U := match u, v with
  | .int i, .int j => some (.int (if j > i then j else i))
  | _, _ => none
theorem q_max2 : GC2 gMax2 uMax2 := fun W S d d2 u v r wf h1 h2 e => by
  unfold uMax2 at e
  split at e
  · cases e; rw [h1.int, h2.int]; exact nil_ok rfl (.int _)
  · cases e
def uMin2 (u v : U) : Option U := match u, v with
  | .int i, .int j => some (.int (if j < i then j else i))
  | _, _ => none
theorem q_min2 : GC2 gMin2 uMin2 := fun W S d d2 u v r wf h1 h2 e => by
  unfold uMin2 at e
  split at e
  · cases e; rw [h1.int, h2.int]; exact nil_ok rfl (.int _)
  · cases e
def uGcd (u v : U) : Option U := match u, v with
  | .int a, .int b => some (.int ((Nat.gcd a.natAbs b.natAbs : Nat) : Int))
  | _, _ => none
theorem q_gcd : GC2 gGcd uGcd := fun W S d d2 u v r wf h1 h2 e => by
  unfold uGcd at e
  split at e
  · cases e; rw [h1.int, h2.int]; exact nil_ok rfl (.int _)
  · cases e
def uTuple (u : U) : Option U := (uItems u).map .tup
theorem q_tuple : GC1 gTuple uTuple := fun W S d u r wf h e => by
  unfold uTuple at e
  cases e1 : uItems u with
  | none => simp [e1] at e
  | some us =>
    simp [e1] at e
    subst e
    obtain ⟨ds, s1, s2⟩ := seq_u h e1
    exact nil_ok (by simp [gTuple, s1]) (.tup s2)
def uToList (u : U) : Option U := (uItems u).map .lst
theorem q_list : GC1 gList uToList := fun W S d u r wf h e => by
  unfold uToList at e
  cases e1 : uItems u with
  | none => simp [e1] at e
  | some us =>
    simp [e1] at e
    subst e
    obtain ⟨ds, s1, s2⟩ := seq_u h e1
    exact new_ok wf (by simp [gList, s1]) s2
/-! ### classes, fields, None -/
def tyU (u : U) : CK := match u with
  | .non => .ty "NoneType"
  | .bl _ => .ty "bool"
  | .int _ => .ty "int"
  | .str _ => .ty "str"
  | .tup _ => .ty "tuple"
  | .fl _ => .ty "list"
  | .lst _ => .ty "list"
  | .emp => .ty "dict"
  | .exc c _ => .own c
theorem ty_u {W S d u} (h : RpT W S d u) : tyC d S = some (tyU u) := by
  cases u with
  | non => rw [h.non]; rfl
  | bl b => rw [h.bl]; rfl
  | int b => rw [h.int]; rfl
  | str b => rw [h.str]; rfl
  | emp => rw [h.emp]; rfl
  | tup us => obtain ⟨ds, rfl, r⟩ := h.tup; rfl
  | fl us => obtain ⟨ds, rfl, r⟩ := h.fl; rfl
  | lst us => obtain ⟨n, ds, rfl, hs, r⟩ := h.lst; simp [tyC, hs, tyU]
  | exc c gs => obtain ⟨n, fs, rfl, hs, r⟩ := h.exc; simp [tyC, hs, tyU]
def uIsi (tab : Tab) (cs : List CK) (u : U) : Option U := (isAny tab (tyU u) cs).map .bl
theorem q_isi {tab cs} : G1 (gIsi tab cs) (uIsi tab cs) := fun W S d u r wf h e => by
  unfold uIsi at e
  cases z : isAny tab (tyU u) cs with
  | none => simp [z] at e
  | some b =>
    simp [z] at e
    subst e
    exact nil_ok (by simp [gIsi, ty_u h, z]) (.bl _)
theorem Rpf.look {W S} {f : Str} : ∀ {fs : List (Str × D)} {gs : List (Str × U)} {u : U}, Rpf W S fs gs → gs.lookup f = some u → ∃ d, fs.lookup f = some d ∧ Rp W S d u
  | _, _, _, .nil, e => by cases e
  | _, _, u, .cons (k := k) (ds := ds) (us := us) r t, e => by
    rw [List.lookup_cons] at e ⊢
    cases z : f == k with
    | true => rw [z] at e; cases e; exact ⟨_, rfl, r⟩
    | false => rw [z] at e; exact Rpf.look t e
def uFld (cl : List Str) (f : Str) (u : U) : Option U := match u with
  | .exc c gs => if c ∈ cl then gs.lookup f else none
  | _ => none
theorem q_fld {cl f} : G1 (gFld cl f) (uFld cl f) := fun W S d u r wf h e => by
  unfold uFld at e
  split at e
  · rename_i c gs
    split at e
    · rename_i hc
      obtain ⟨n, fs, rfl, hs, q⟩ := h.exc
      obtain ⟨x, h1, h2⟩ := q.look e
      exact nil_ok (by simp [gFld, hs, hc, h1]) h2
    · cases e
  · cases e
def uIsN (neg : Bool) (u v : U) : Option U := match v with
  | .non => some (.bl (match u with | .non => !neg | _ => neg))
  | _ => none
theorem q_isN {neg} : G2 (gIsN neg) (uIsN neg) := fun W S d d2 u v r wf h1 h2 e => by
  unfold uIsN at e
  split at e
  · rw [h2.non]
    cases e
    refine nil_ok (d := .bl _) rfl ?_
    cases u with
    | non => rw [h1.non]; exact .bl _
    | bl b => rw [h1.bl]; exact .bl _
    | int b => rw [h1.int]; exact .bl _
    | str b => rw [h1.str]; exact .bl _
    | emp => rw [h1.emp]; exact .bl _
    | tup us => obtain ⟨ds, rfl, r⟩ := h1.tup; exact .bl _
    | fl us => obtain ⟨ds, rfl, r⟩ := h1.fl; exact .bl _
    | lst us => obtain ⟨n, ds, rfl, hs, r⟩ := h1.lst; exact .bl _
    | exc c gs => obtain ⟨n, fs, rfl, hs, r⟩ := h1.exc; exact .bl _
  · cases e
/-! ### in, of plain ones -/
def eqU : U → U → Option Bool
  | .non, .non => some true
  | .bl a, .bl b => some (a == b)
  | .bl a, .int b => some ((if a then 1 else 0) == b)
  | .int a, .bl b => some (a == (if b then 1 else 0))
  | .int a, .int b => some (a == b)
  | .str a, .str b => some (a == b)
  | .non, .bl _ | .non, .int _ | .non, .str _ | .bl _, .non | .int _, .non | .str _, .non => some false
  | .bl _, .str _ | .int _, .str _ | .str _, .bl _ | .str _, .int _ => some false
  | _, _ => none
def anyU (x : U) : List U → Option Bool
  | [] => some false
  | y :: r => match eqU y x, anyU x r with
    | some a, some b => some (a || b)
    | _, _ => none
theorem eqU_ok {W S d e u v b} (h1 : RpT W S d u) (h2 : RpT W S e v) (h : eqU u v = some b) : eqF d e = some b := by
  unfold eqU at h
  split at h
  · rw [h1.non, h2.non]; exact h
  · rw [h1.bl, h2.bl]; exact h
  · rw [h1.bl, h2.int]; exact h
  · rw [h1.int, h2.bl]; exact h
  · rw [h1.int, h2.int]; exact h
  · rw [h1.str, h2.str]; exact h
  · rw [h1.non, h2.bl]; exact h
  · rw [h1.non, h2.int]; exact h
  · rw [h1.non, h2.str]; exact h
  · rw [h1.bl, h2.non]; exact h
  · rw [h1.int, h2.non]; exact h
  · rw [h1.str, h2.non]; exact h
  · rw [h1.bl, h2.str]; exact h
  · rw [h1.int, h2.str]; exact h
  · rw [h1.str, h2.bl]; exact h
  · rw [h1.str, h2.int]; exact h
  · cases h
theorem anyU_ok {W S d u} (h1 : RpT W S d u) : ∀ {ds : List D} {us : List U} {b : Bool}, Rps W S ds us → anyU u us = some b → anyF d ds = some b
  | _, _, b, .nil, h => h
  | _, _, b, .cons (u := y) (us := us) r t, h => by
    unfold anyU at h
    unfold anyF
    cases e1 : eqU y u with
    | none => simp [e1] at h
    | some a =>
      cases e2 : anyU u us with
      | none => simp [e1, e2] at h
      | some c =>
        rw [eqU_ok (.inl r) h1 e1, anyU_ok h1 t e2]
        simpa [e1, e2] using h
def uIn (neg : Bool) (u v : U) : Option U := match v with
  | .str z => (match u with
    | .str w => (match w.cps.toList with
      | [c] => some (.bl (if neg then !decide (c ∈ z.cps.toList) else decide (c ∈ z.cps.toList)))
      | _ => none)
    | _ => none)
  | v => (match uItems v with
    | some us => (match eqU u u, anyU u us with
      | some _, some b => some (.bl (if neg then !b else b))
      | _, _ => none)
    | none => none)
theorem q_in {neg} : G2 (gIn neg) (uIn neg) := fun W S d d2 u v r wf h1 h2 e => by
  unfold uIn at e
  split at e
  · rename_i z
    rw [h2.str]
    split at e
    · rename_i w
      rw [h1.str]
      split at e
      · rename_i c hc
        cases e
        exact nil_ok (by simp [gIn, hc]) (.bl _)
      · cases e
    · cases e
  · rename_i hn
    split at e
    · rename_i us hu
      split at e
      · rename_i x b e1 e2
        cases e
        obtain ⟨ds, s1, s2⟩ := seq_u h2 hu
        refine nil_ok (d := .bl _) ?_ (.bl _)
        unfold gIn
        split
        · exact absurd rfl (notStr h2 (fun x q => hn x q) _)
        · rw [s1]
          simp only [eqU_ok h1 h1 e1, anyU_ok h1 s2 e2]
      · cases e
    · cases e
end Z
namespace Z
open PySem PySem.Spec PyProof.Rows L2
def zipU (xs ys : List U) : List U := (xs.zip ys).map fun p => .tup [p.1, p.2]
def itZipU (u v : U) : Option (List U) := match u, v with
  | .tup xs, .tup ys => some (zipU xs ys)
  | .lst xs, .lst ys => some (zipU xs ys)
  | _, _ => none
def uZp (a b : UE) : UI := fun e => (a e).bind fun u e1 => (b e1).bind fun v e2 => uRet (itZipU u v) e2
theorem Rps.zip {W S} : ∀ {ds es : List D} {us vs : List U}, Rps W S ds us → Rps W S es vs → Rps W S (zipD ds es) (zipU us vs)
  | _, _, _, _, .nil, _ => by simp [zipD, zipU]; exact .nil
  | _, _, _, _, .cons _ _, .nil => by simp [zipD, zipU]; exact .nil
  | _, _, _, _, .cons r t, .cons r2 t2 => .cons (.tup (.cons r (.cons r2 .nil))) (Rps.zip t t2)
theorem si_zip {own f g qa qb} (ha : SE own f qa) (hb : SE own g qb) : SI own (iZp f g) (uZp qa qb) := fun W S E e r => by
  unfold iZp uZp
  rw [Res.q_bindI]
  refine QOk.bind (ha W S E e r) fun a b S1 e1 ra r1 l1 => ?_
  rw [Res.q_bindI]
  refine QOk.bind (hb W S1 E e1 r1) fun a2 b2 S2 e2 ra2 r2 l2 => ?_
  have ra := ra.up l2
  cases ra with
  | tup rs =>
    cases ra2 with
    | tup rs2 => exact QOk.ret0 (R := RI) ⟨rs.zip rs2, fun n z => by cases z⟩ r2
    | _ => exact QOk.bad
  | lst hn hs rs =>
    cases ra2 with
    | lst hn2 hs2 rs2 =>
      simp only [itZip, hs, hs2]
      exact QOk.ret0 (R := RI) ⟨rs.zip rs2, fun p z => by
        simp at z
        rcases z with z | z <;> subst z
        · exact ⟨hn, hs⟩
        · exact ⟨hn2, hs2⟩⟩ r2
    | _ => exact QOk.bad
  | _ => exact QOk.bad
def uMax1 (u : U) : Option U := (uList? u).bind fun us => (intsU us).bind fun bs => if 0 < bs.length then some (.int (maxI bs)) else none
def uMin1 (u : U) : Option U := (uList? u).bind fun us => (intsU us).bind fun bs => if 0 < bs.length then some (.int (minI bs)) else none
theorem q_max1 : GC1 gMax1 uMax1 := fun W S d u r wf h e => by
  unfold uMax1 at e
  cases e1 : uList? u with
  | none => simp [e1] at e
  | some us =>
    cases e2 : intsU us with
    | none => simp [e1, e2] at e
    | some bs =>
      simp only [e1, e2, Option.bind_some] at e
      obtain ⟨ds, s1, s2⟩ := list_u h e1
      split at e
      · rename_i hz
        cases e
        exact nil_ok (by simp [gMax1, s1, ints_ok s2 e2, hz]) (.int _)
      · cases e
theorem q_min1 : GC1 gMin1 uMin1 := fun W S d u r wf h e => by
  unfold uMin1 at e
  cases e1 : uList? u with
  | none => simp [e1] at e
  | some us =>
    cases e2 : intsU us with
    | none => simp [e1, e2] at e
    | some bs =>
      simp only [e1, e2, Option.bind_some] at e
      obtain ⟨ds, s1, s2⟩ := list_u h e1
      split at e
      · rename_i hz
        cases e
        exact nil_ok (by simp [gMin1, s1, ints_ok s2 e2, hz]) (.int _)
      · cases e
def uRepr2 (u : U) : Option U := match toPU 40 u with
  | some p => if p.showable && decide (p.depth ≤ 60) && decide (p.shown.length ≤ sizeLine) then some (.str p.shown) else none
  | none => none
theorem q_repr2 : GC1 gRepr2 uRepr2 := fun W S d u r wf h e => by
  unfold uRepr2 at e
  split at e
  · rename_i p e1
    split at e
    · rename_i hz
      cases e
      refine nil_ok ?_ (.str _)
      unfold gRepr2
      simp only [toPU_ok 40 h e1]
      exact if_pos hz
    · cases e
  · cases e
def uEq0 (u v : U) : Option U := match u, v with
  | .tup xs, .tup [] => some (.bl xs.isEmpty)
  | _, _ => none
def uNe0 (u v : U) : Option U := match u, v with
  | .tup xs, .tup [] => some (.bl (!xs.isEmpty))
  | _, _ => none
theorem q_eq0 : G2 gEq0 uEq0 := fun W S d d2 u v r wf h1 h2 e => by
  unfold uEq0 at e
  split at e
  · cases e
    obtain ⟨a, rfl, r1⟩ := h1.tup
    obtain ⟨b, rfl, r2⟩ := h2.tup
    cases r2
    exact nil_ok (d := .bl a.isEmpty) rfl (by rw [r1.emp]; exact .bl _)
  · cases e
theorem q_ne0 : G2 gNe0 uNe0 := fun W S d d2 u v r wf h1 h2 e => by
  unfold uNe0 at e
  split at e
  · cases e
    obtain ⟨a, rfl, r1⟩ := h1.tup
    obtain ⟨b, rfl, r2⟩ := h2.tup
    cases r2
    exact nil_ok (d := .bl (!a.isEmpty)) rfl (by rw [r1.emp]; exact .bl _)
  · cases e
def uRevT (u : U) : Option U := match u with
  | .tup xs => some (.tup xs.reverse)
  | _ => none
theorem q_revT : G1 gRevT uRevT := fun W S d u r wf h e => by
  unfold uRevT at e
  split at e
  · cases e
    obtain ⟨a, rfl, r1⟩ := h.tup
    exact nil_ok rfl (.tup r1.rev)
  · cases e
end Z
namespace P
open PySem PySem.Spec PyProof.Rows L2 Z
noncomputable def ub__law_pot_F : UF := uSeq (uSet 2 (uBin uAdd (.now (uBin uMul (.now (uC (.int 5))) (.now (uV 1)))) (.now (uUn uLen (.now (uV 0)))))) (uSeq (uIfS (uCmp uLt (.now (uV 1)) (.now (uUn uLen (.now (uV 0))))) (uSeq (uSet 2 (uBin uIx (.now (uV 0)) (.now (uV 1)))) (uNop)) (uNop)) (uSeq (uSet 3 (uBin uMul (.now (uBin uMod (.now (uUn uAbs (.now (uV 2)))) (.now (uUn uToInt (.now (uBin uAdd (.now (uC (.str "1"))) (.now (uBin uMul (.now (uC (.str "0"))) (.now (uC (.int 300))))))))))) (.now (uUn uToInt (.now (uBin uGe (.now (uUn uAbs (.now (uV 2)))) (.now (uBin uPow (.now (uC (.int 10))) (.now (uC (.int 18))))))))))) (uSeq (uReturn (uLst (uCons (uV 3) (uCons (uBin uMod (.now (uBin uMul (.now (uBin uAdd (.now (uBin uAdd (.now (uBin uMod (.now (uV 2)) (.now (uC (.int 2305843009213693951))))) (.now (uBin uMul (.now (uBin uMul (.now (uC (.int 6959))) (.now (uV 1)))) (.now (uV 1)))))) (.now (uC (.int 13))))) (.now (uC (.int 48271))))) (.now (uC (.int 2305843009213693951)))) (uNil))))) (uNop))))
noncomputable def uf__law_pot_F : List U → UQ U := uRunF 4 ub__law_pot_F
theorem su__law_pot_F : SFnF [] fn__law_pot uf__law_pot_F := sfn_runF (io := []) (lo := []) (own' := []) (b := b__law_pot) (q := ub__law_pot_F) (ss_seq (ss_set (su_bin q_add (so_now (su_bin q_mul (so_now (su_c (fun _ _ => .int _))) (so_now (su_v (by decide))))) (so_now (su_call1 q_len (so_now (su_v (by decide)))))) rfl (by decide)) (ss_seq (ss_if (own' := []) (sb_cmp q_lt (so_now (su_v (by decide))) (so_now (su_call1 q_len (so_now (su_v (by decide)))))) rfl (ss_seq (ss_set (su_bin q_ix (so_now (su_v (by decide))) (so_now (su_v (by decide)))) rfl (by decide)) (ss_nil)) (ss_nil)) (ss_seq (ss_set (su_bin q_mul (so_now (su_bin q_mod (so_now (su_call1 q_abs (so_now (su_v (by decide))))) (so_now (su_call1 q_int (so_now (su_bin q_add (so_now (su_c (fun _ _ => .str _))) (so_now (su_bin q_mul (so_now (su_c (fun _ _ => .str _))) (so_now (su_c (fun _ _ => .int _))))))))))) (so_now (su_call1 q_int (so_now (su_bin q_ge (so_now (su_call1 q_abs (so_now (su_v (by decide))))) (so_now (su_bin q_pow (so_now (su_c (fun _ _ => .int _))) (so_now (su_c (fun _ _ => .int _)))))))))) rfl (by decide)) (ss_seq (ss_retF (sf_lst (sl_cons (su_v (by decide)) (sl_cons (su_bin q_mod (so_now (su_bin q_mul (so_now (su_bin q_add (so_now (su_bin q_add (so_now (su_bin q_mod (so_now (su_v (by decide))) (so_now (su_c (fun _ _ => .int _))))) (so_now (su_bin q_mul (so_now (su_bin q_mul (so_now (su_c (fun _ _ => .int _))) (so_now (su_v (by decide))))) (so_now (su_v (by decide))))))) (so_now (su_c (fun _ _ => .int _))))) (so_now (su_c (fun _ _ => .int _))))) (so_now (su_c (fun _ _ => .int _)))) (sl_nil)))) rfl rfl) (ss_nil))))) rfl
noncomputable def ub__law_take_i0 : UF := uSeq (uIfS (uCmp uGt (.now (uBin uIx (.late 0) (.now (uC (.int 0))))) (.now (uC (.int 0)))) (uSeq (uSet 2 (uBin uMod (.now (uBin uIx (.late 0) (.now (uC (.int 0))))) (.now (uV 1)))) (uSeq (uSub 0 (uBin uDiv (.now (uBin uIx (.late 0) (.now (uC (.int 0))))) (.now (uV 1))) (uC (.int 0))) (uSeq (uReturn (uV 2)) (uNop)))) (uNop)) (uSeq (uSub 0 (uBin uMod (.now (uBin uAdd (.now (uBin uMul (.now (uBin uIx (.late 0) (.now (uC (.int 1))))) (.now (uC (.int 1181783497276652981))))) (.now (uC (.int 12345678910987))))) (.now (uC (.int 2305843009213693951)))) (uC (.int 1))) (uSeq (uReturn (uBin uMod (.now (uBin uDiv (.now (uBin uMod (.now (uBin uMul (.now (uBin uDiv (.now (uBin uIx (.late 0) (.now (uC (.int 1))))) (.now (uC (.int 65537))))) (.now (uBin uAdd (.now (uBin uMod (.now (uBin uIx (.late 0) (.now (uC (.int 1))))) (.now (uC (.int 65537))))) (.now (uC (.int 3))))))) (.now (uC (.int 2305843009213693921))))) (.now (uC (.int 97))))) (.now (uV 1)))) (uNop)))
noncomputable def uf__law_take_i0 : List U → UQ U := uRun 3 ub__law_take_i0
theorem su__law_take_i0 : SFn [0] fn__law_take uf__law_take_i0 := sfn_run (io := [0]) (lo := [0]) (own' := [0]) (b := b__law_take) (q := ub__law_take_i0) (ss_seq (ss_if (own' := [0]) (sb_cmp q_gt (so_now (su_bin q_ix (so_late (by decide)) (so_now (su_c (fun _ _ => .int _))))) (so_now (su_c (fun _ _ => .int _)))) rfl (ss_seq (ss_set (su_bin q_mod (so_now (su_bin q_ix (so_late (by decide)) (so_now (su_c (fun _ _ => .int _))))) (so_now (su_v (by decide)))) rfl (by decide)) (ss_seq (ss_sub (su_bin q_div (so_now (su_bin q_ix (so_late (by decide)) (so_now (su_c (fun _ _ => .int _))))) (so_now (su_v (by decide)))) (su_c (fun _ _ => .int _)) rfl (by decide)) (ss_seq (ss_ret (su_v (by decide)) rfl rfl) (ss_nil)))) (ss_nil)) (ss_seq (ss_sub (su_bin q_mod (so_now (su_bin q_add (so_now (su_bin q_mul (so_now (su_bin q_ix (so_late (by decide)) (so_now (su_c (fun _ _ => .int _))))) (so_now (su_c (fun _ _ => .int _))))) (so_now (su_c (fun _ _ => .int _))))) (so_now (su_c (fun _ _ => .int _)))) (su_c (fun _ _ => .int _)) rfl (by decide)) (ss_seq (ss_ret (su_bin q_mod (so_now (su_bin q_div (so_now (su_bin q_mod (so_now (su_bin q_mul (so_now (su_bin q_div (so_now (su_bin q_ix (so_late (by decide)) (so_now (su_c (fun _ _ => .int _))))) (so_now (su_c (fun _ _ => .int _))))) (so_now (su_bin q_add (so_now (su_bin q_mod (so_now (su_bin q_ix (so_late (by decide)) (so_now (su_c (fun _ _ => .int _))))) (so_now (su_c (fun _ _ => .int _))))) (so_now (su_c (fun _ _ => .int _))))))) (so_now (su_c (fun _ _ => .int _))))) (so_now (su_c (fun _ _ => .int _))))) (so_now (su_v (by decide)))) rfl rfl) (ss_nil)))) rfl
noncomputable def ub__law_of_i0 : UF := uSeq (uReturn (uBin uIx (.now (uV 1)) (.now (uCall [0, 1] [] [.io 0, .val (uUn uLen (.now (uV 1)))] [(0, 0)] uf__law_take_i0)))) (uNop)
noncomputable def uf__law_of_i0 : List U → UQ U := uRun 2 ub__law_of_i0
theorem su__law_of_i0 : SFn [0] fn__law_of uf__law_of_i0 := sfn_run (io := [0]) (lo := [0]) (own' := [0]) (b := b__law_of) (q := ub__law_of_i0) (ss_seq (ss_ret (su_bin q_ix (so_now (su_v (by decide))) (so_now (call_ok (io := [0]) (ks := [.io 0, .val]) (n := 2) su__law_take_i0 (sa_io (sa_val (su_call1 q_len (so_now (su_v (by decide)))) (sa_nil)) (by decide)) rfl rfl (fun _ _ => .nil) (by decide)))) rfl rfl) (ss_nil)) rfl
noncomputable def ub__law_number_i0 : UF := uSeq (uReturn (uCall [0, 1] [] [.io 0, .val (uLst (uCons (uC (.int 0)) (uCons (uC (.int 1)) (uCons (uC (.int 2)) (uCons (uC (.int 3)) (uCons (uC (.int 7)) (uCons (uCall [0, 1] [] [.io 0, .val (uC (.int 20))] [(0, 0)] uf__law_take_i0) (uCons (uCall [0, 1] [] [.io 0, .val (uBin uPow (.now (uC (.int 10))) (.now (uC (.int 11))))] [(0, 0)] uf__law_take_i0) (uNil)))))))))] [(0, 0)] uf__law_of_i0)) (uNop)
noncomputable def uf__law_number_i0 : List U → UQ U := uRun 1 ub__law_number_i0
theorem su__law_number_i0 : SFn [0] fn__law_number uf__law_number_i0 := sfn_run (io := [0]) (lo := [0]) (own' := [0]) (b := b__law_number) (q := ub__law_number_i0) (ss_seq (ss_ret (call_ok (io := [0]) (ks := [.io 0, .val]) (n := 2) su__law_of_i0 (sa_io (sa_val (su_lst (sl_cons (su_c (fun _ _ => .int _)) (sl_cons (su_c (fun _ _ => .int _)) (sl_cons (su_c (fun _ _ => .int _)) (sl_cons (su_c (fun _ _ => .int _)) (sl_cons (su_c (fun _ _ => .int _)) (sl_cons (call_ok (io := [0]) (ks := [.io 0, .val]) (n := 2) su__law_take_i0 (sa_io (sa_val (su_c (fun _ _ => .int _)) (sa_nil)) (by decide)) rfl rfl (fun _ _ => .nil) (by decide)) (sl_cons (call_ok (io := [0]) (ks := [.io 0, .val]) (n := 2) su__law_take_i0 (sa_io (sa_val (su_bin q_pow (so_now (su_c (fun _ _ => .int _))) (so_now (su_c (fun _ _ => .int _)))) (sa_nil)) (by decide)) rfl rfl (fun _ _ => .nil) (by decide)) (sl_nil))))))))) (sa_nil)) (by decide)) rfl rfl (fun _ _ => .nil) (by decide)) rfl rfl) (ss_nil)) rfl
noncomputable def ub__law_net_i02 (rec : List U → UQ U) : UF := uSeq (uIfS (uOrB (uCmp uEq (.now (uBin uIx (.late 2) (.now (uC (.int 0))))) (.now (uC (.int 0)))) (uCmp uEq (.now (uCall [0, 1] [] [.io 0, .val (uC (.int 4))] [(0, 0)] uf__law_take_i0)) (.now (uC (.int 0))))) (uSeq (uReturn (uIf (uCmp uGt (.now (uCall [0, 1] [] [.io 0, .val (uC (.int 4))] [(0, 0)] uf__law_take_i0)) (.now (uC (.int 0)))) (uTup (uCons (uC (.str "work")) (uCons (uCall [0, 1] [] [.io 0, .val (uV 1)] [(0, 0)] uf__law_take_i0) (uNil)))) (uTup (uCons (uC (.str "rest")) (uCons (uCall [0] [] [.io 0] [(0, 0)] uf__law_number_i0) (uNil)))))) (uNop)) (uNop)) (uSeq (uSub 2 (uBin uSub2 (.now (uBin uIx (.late 2) (.now (uC (.int 0))))) (.now (uC (.int 1)))) (uC (.int 0))) (uSeq (uSet 3 (uCall [0, 1] [] [.io 0, .val (uLst (uCons (uC (.str "after")) (uCons (uC (.str "last")) (uCons (uC (.str "first")) (uCons (uC (.str "after")) (uCons (uC (.str "last")) (uCons (uC (.str "first")) (uCons (uC (.str "not_before")) (uCons (uC (.str "given_up")) (uNil))))))))))] [(0, 0)] uf__law_of_i0)) (uSeq (uIfS (uCmp (uInP false) (.now (uV 3)) (.now (uTup (uCons (uC (.str "not_before")) (uCons (uC (.str "given_up")) (uNil)))))) (uSeq (uSet 5 (uCall [0] [] [.io 0] [(0, 0)] uf__law_number_i0)) (uSeq (uReturn (uTup (uCons (uV 3) (uCons (uV 5) (uCons (uCall [0, 1, 2] [] [.io 0, .val (uV 1), .io 2] [(0, 0), (2, 2)] rec) (uNil)))))) (uNop))) (uNop)) (uSeq (uSet 4 (uBin uAdd (.now (uC (.int 2))) (.now (uCall [0, 1] [] [.io 0, .val (uLst (uCons (uC (.int 0)) (uCons (uC (.int 0)) (uCons (uC (.int 1)) (uCons (uC (.int 2)) (uNil))))))] [(0, 0)] uf__law_of_i0)))) (uSeq (uReturn (uBin uAdd (.now (uTup (uCons (uV 3) (uNil)))) (.now (uUn uTuple (.now (uLc (uRng (uV 4)) (.nm 6) [6] (uTrue) (uCall [0, 1, 2] [] [.io 0, .val (uV 1), .io 2] [(0, 0), (2, 2)] rec))))))) (uNop))))))
noncomputable def uf__law_net_i02 : Nat → List U → UQ U
  | 0 => fun _ => .bad
  | n + 1 => uRun 7 (ub__law_net_i02 (uf__law_net_i02 n))
theorem su__law_net_i02 : ∀ n, SFn [0, 2] (fn__law_net n) (uf__law_net_i02 n)
  | 0 => sfn_bad
  | n + 1 => sfn_run (io := [0, 2]) (lo := [0, 2]) (own' := [0, 2]) (b := b__law_net (fn__law_net n)) (q := ub__law_net_i02 (uf__law_net_i02 n)) (ss_seq (ss_if (own' := [0, 2]) (sb_or (sb_cmp q_eq (so_now (su_bin q_ix (so_late (by decide)) (so_now (su_c (fun _ _ => .int _))))) (so_now (su_c (fun _ _ => .int _)))) (sb_cmp q_eq (so_now (call_ok (io := [0]) (ks := [.io 0, .val]) (n := 2) su__law_take_i0 (sa_io (sa_val (su_c (fun _ _ => .int _)) (sa_nil)) (by decide)) rfl rfl (fun _ _ => .nil) (by decide))) (so_now (su_c (fun _ _ => .int _))))) rfl (ss_seq (ss_ret (su_if (sb_cmp q_gt (so_now (call_ok (io := [0]) (ks := [.io 0, .val]) (n := 2) su__law_take_i0 (sa_io (sa_val (su_c (fun _ _ => .int _)) (sa_nil)) (by decide)) rfl rfl (fun _ _ => .nil) (by decide))) (so_now (su_c (fun _ _ => .int _)))) (su_tup (sl_cons (su_c (fun _ _ => .str _)) (sl_cons (call_ok (io := [0]) (ks := [.io 0, .val]) (n := 2) su__law_take_i0 (sa_io (sa_val (su_v (by decide)) (sa_nil)) (by decide)) rfl rfl (fun _ _ => .nil) (by decide)) (sl_nil)))) (su_tup (sl_cons (su_c (fun _ _ => .str _)) (sl_cons (call_ok (io := [0]) (ks := [.io 0]) (n := 1) su__law_number_i0 (sa_io (sa_nil) (by decide)) rfl rfl (fun _ _ => .nil) (by decide)) (sl_nil))))) rfl rfl) (ss_nil)) (ss_nil)) (ss_seq (ss_sub (su_bin q_sub (so_now (su_bin q_ix (so_late (by decide)) (so_now (su_c (fun _ _ => .int _))))) (so_now (su_c (fun _ _ => .int _)))) (su_c (fun _ _ => .int _)) rfl (by decide)) (ss_seq (ss_set (call_ok (io := [0]) (ks := [.io 0, .val]) (n := 2) su__law_of_i0 (sa_io (sa_val (su_lst (sl_cons (su_c (fun _ _ => .str _)) (sl_cons (su_c (fun _ _ => .str _)) (sl_cons (su_c (fun _ _ => .str _)) (sl_cons (su_c (fun _ _ => .str _)) (sl_cons (su_c (fun _ _ => .str _)) (sl_cons (su_c (fun _ _ => .str _)) (sl_cons (su_c (fun _ _ => .str _)) (sl_cons (su_c (fun _ _ => .str _)) (sl_nil)))))))))) (sa_nil)) (by decide)) rfl rfl (fun _ _ => .nil) (by decide)) rfl (by decide)) (ss_seq (ss_if (own' := [0, 2]) (sb_cmp q_inP (so_now (su_v (by decide))) (so_now (su_tup (sl_cons (su_c (fun _ _ => .str _)) (sl_cons (su_c (fun _ _ => .str _)) (sl_nil)))))) rfl (ss_seq (ss_set (call_ok (io := [0]) (ks := [.io 0]) (n := 1) su__law_number_i0 (sa_io (sa_nil) (by decide)) rfl rfl (fun _ _ => .nil) (by decide)) rfl (by decide)) (ss_seq (ss_ret (su_tup (sl_cons (su_v (by decide)) (sl_cons (su_v (by decide)) (sl_cons (call_ok (io := [0, 2]) (ks := [.io 0, .val, .io 2]) (n := 3) (su__law_net_i02 n) (sa_io (sa_val (su_v (by decide)) (sa_io (sa_nil) (by decide))) (by decide)) rfl rfl (fun _ _ => .nil) (by decide)) (sl_nil))))) rfl rfl) (ss_nil))) (ss_nil)) (ss_seq (ss_set (su_bin q_add (so_now (su_c (fun _ _ => .int _))) (so_now (call_ok (io := [0]) (ks := [.io 0, .val]) (n := 2) su__law_of_i0 (sa_io (sa_val (su_lst (sl_cons (su_c (fun _ _ => .int _)) (sl_cons (su_c (fun _ _ => .int _)) (sl_cons (su_c (fun _ _ => .int _)) (sl_cons (su_c (fun _ _ => .int _)) (sl_nil)))))) (sa_nil)) (by decide)) rfl rfl (fun _ _ => .nil) (by decide)))) rfl (by decide)) (ss_seq (ss_ret (su_bin q_add (so_now (su_tup (sl_cons (su_v (by decide)) (sl_nil)))) (so_now (su_call1 q_tuple (so_now (se_f (sf_lc (ws := [6]) (si_rng (su_v (by decide))) (sb_true) (call_ok (io := [0, 2]) (ks := [.io 0, .val, .io 2]) (n := 3) (su__law_net_i02 n) (sa_io (sa_val (su_v (by decide)) (sa_io (sa_nil) (by decide))) (by decide)) rfl rfl (fun _ _ => .nil) (by decide)) (by decide) (by decide))))))) rfl rfl) (ss_nil))))))) rfl
noncomputable def ub__law_deep_i0 : UF := uSeq (uSet 3 (uTup (uCons (uC (.str "work")) (uCons (uBin uSub2 (.now (uV 1)) (.now (uC (.int 1)))) (uNil))))) (uSeq (uFor (uRng (uV 2)) (.nm 4) (uSeq (uSet 5 (uCall [0, 1] [] [.io 0, .val (uLst (uCons (uC (.str "after")) (uCons (uC (.str "last")) (uCons (uC (.str "first")) (uCons (uC (.str "not_before")) (uCons (uC (.str "given_up")) (uNil)))))))] [(0, 0)] uf__law_of_i0)) (uSeq (uIfS (uCmp (uInP false) (.now (uV 5)) (.now (uTup (uCons (uC (.str "not_before")) (uCons (uC (.str "given_up")) (uNil)))))) (uSeq (uSet 3 (uTup (uCons (uV 5) (uCons (uV 4) (uCons (uV 3) (uNil)))))) (uNop)) (uSeq (uSet 3 (uCall [0, 1] [] [.io 0, .val (uLst (uCons (uTup (uCons (uV 5) (uCons (uV 3) (uCons (uTup (uCons (uC (.str "rest")) (uCons (uV 4) (uNil)))) (uNil))))) (uCons (uTup (uCons (uV 5) (uCons (uTup (uCons (uC (.str "work")) (uCons (uC (.int 0)) (uNil)))) (uCons (uV 3) (uNil))))) (uNil))))] [(0, 0)] uf__law_of_i0)) (uNop))) (uNop)))) (uSeq (uReturn (uV 3)) (uNop)))
noncomputable def uf__law_deep_i0 : List U → UQ U := uRun 6 ub__law_deep_i0
theorem su__law_deep_i0 : SFn [0] fn__law_deep uf__law_deep_i0 := sfn_run (io := [0]) (lo := [0]) (own' := [0]) (b := b__law_deep) (q := ub__law_deep_i0) (ss_seq (ss_set (su_tup (sl_cons (su_c (fun _ _ => .str _)) (sl_cons (su_bin q_sub (so_now (su_v (by decide))) (so_now (su_c (fun _ _ => .int _)))) (sl_nil)))) rfl (by decide)) (ss_seq (ss_for (own := [0]) (si_rng (su_v (by decide))) rfl (by decide) (ss_seq (ss_set (call_ok (io := [0]) (ks := [.io 0, .val]) (n := 2) su__law_of_i0 (sa_io (sa_val (su_lst (sl_cons (su_c (fun _ _ => .str _)) (sl_cons (su_c (fun _ _ => .str _)) (sl_cons (su_c (fun _ _ => .str _)) (sl_cons (su_c (fun _ _ => .str _)) (sl_cons (su_c (fun _ _ => .str _)) (sl_nil))))))) (sa_nil)) (by decide)) rfl rfl (fun _ _ => .nil) (by decide)) rfl (by decide)) (ss_seq (ss_if (own' := [0]) (sb_cmp q_inP (so_now (su_v (by decide))) (so_now (su_tup (sl_cons (su_c (fun _ _ => .str _)) (sl_cons (su_c (fun _ _ => .str _)) (sl_nil)))))) rfl (ss_seq (ss_set (su_tup (sl_cons (su_v (by decide)) (sl_cons (su_v (by decide)) (sl_cons (su_v (by decide)) (sl_nil))))) rfl (by decide)) (ss_nil)) (ss_seq (ss_set (call_ok (io := [0]) (ks := [.io 0, .val]) (n := 2) su__law_of_i0 (sa_io (sa_val (su_lst (sl_cons (su_tup (sl_cons (su_v (by decide)) (sl_cons (su_v (by decide)) (sl_cons (su_tup (sl_cons (su_c (fun _ _ => .str _)) (sl_cons (su_v (by decide)) (sl_nil)))) (sl_nil))))) (sl_cons (su_tup (sl_cons (su_v (by decide)) (sl_cons (su_tup (sl_cons (su_c (fun _ _ => .str _)) (sl_cons (su_c (fun _ _ => .int _)) (sl_nil)))) (sl_cons (su_v (by decide)) (sl_nil))))) (sl_nil)))) (sa_nil)) (by decide)) rfl rfl (fun _ _ => .nil) (by decide)) rfl (by decide)) (ss_nil))) (ss_nil)))) (ss_seq (ss_ret (su_v (by decide)) rfl rfl) (ss_nil)))) rfl
noncomputable def ub_is_whole : UF := uSeq (uReturn (uAnd (uUn (uIsi itab [.ty "int"]) (.now (uV 0))) (uNot (uUn (uIsi itab [.ty "bool"]) (.now (uV 0)))))) (uNop)
noncomputable def uf_is_whole : List U → UQ U := uRun 1 ub_is_whole
theorem su_is_whole : SFn [] fn_is_whole uf_is_whole := sfn_run (io := []) (lo := []) (own' := []) (b := b_is_whole) (q := ub_is_whole) (ss_seq (ss_ret (su_and (su_un q_isi (so_now (su_v (by decide)))) (su_not (su_un q_isi (so_now (su_v (by decide)))))) rfl rfl) (ss_nil)) rfl
noncomputable def ub_is_begun : UF := uSeq (uIfS (uOrB (uNotB (uOf (.now (uUn (uIsi itab [.ty "tuple"]) (.now (uV 0)))))) (uOrB (uCmp uLt (.now (uUn uLen (.now (uV 0)))) (.now (uC (.int 2)))) (uNotB (uOf (.now (uUn (uIsi itab [.ty "str"]) (.now (uBin uIx (.now (uV 0)) (.now (uC (.int 0))))))))))) (uSeq (uReturn (uC (.bl false))) (uNop)) (uNop)) (uSeq (uSet 2 (uBin uIx (.now (uV 0)) (.now (uC (.int 0))))) (uSeq (uIfS (uCmp uEq (.now (uV 2)) (.now (uC (.str "work")))) (uSeq (uReturn (uAnd (uBin uEq (.now (uUn uLen (.now (uV 0)))) (.now (uC (.int 2)))) (uAnd (uCall [0] [] [.val (uBin uIx (.now (uV 0)) (.now (uC (.int 1))))] [] uf_is_whole) (uChain uLe uLt (uC (.int 0)) (uBin uIx (.now (uV 0)) (.now (uC (.int 1)))) (uV 1))))) (uNop)) (uNop)) (uSeq (uIfS (uCmp uEq (.now (uV 2)) (.now (uC (.str "rest")))) (uSeq (uReturn (uAnd (uBin uEq (.now (uUn uLen (.now (uV 0)))) (.now (uC (.int 2)))) (uAnd (uCall [0] [] [.val (uBin uIx (.now (uV 0)) (.now (uC (.int 1))))] [] uf_is_whole) (uBin uGe (.now (uBin uIx (.now (uV 0)) (.now (uC (.int 1))))) (.now (uC (.int 0))))))) (uNop)) (uNop)) (uSeq (uIfS (uCmp (uInP false) (.now (uV 2)) (.now (uC (.tup [.str "not_before", .str "given_up"])))) (uSeq (uReturn (uBin uEq (.now (uUn uLen (.now (uV 0)))) (.now (uC (.int 3))))) (uNop)) (uNop)) (uSeq (uReturn (uAnd (uBin (uInP false) (.now (uV 2)) (.now (uC (.tup [.str "after", .str "last", .str "first"])))) (uChain uLe uLe (uC (.int 3)) (uUn uLen (.now (uV 0))) (uC (.int 5))))) (uNop))))))
noncomputable def uf_is_begun : List U → UQ U := uRun 3 ub_is_begun
theorem su_is_begun : SFn [] fn_is_begun uf_is_begun := sfn_run (io := []) (lo := []) (own' := []) (b := b_is_begun) (q := ub_is_begun) (ss_seq (ss_if (own' := []) (sb_or (sb_not (sb_of (so_now (su_un q_isi (so_now (su_v (by decide))))))) (sb_or (sb_cmp q_lt (so_now (su_call1 q_len (so_now (su_v (by decide))))) (so_now (su_c (fun _ _ => .int _)))) (sb_not (sb_of (so_now (su_un q_isi (so_now (su_bin q_ix (so_now (su_v (by decide))) (so_now (su_c (fun _ _ => .int _))))))))))) rfl (ss_seq (ss_ret (su_c (fun _ _ => .bl _)) rfl rfl) (ss_nil)) (ss_nil)) (ss_seq (ss_set (su_bin q_ix (so_now (su_v (by decide))) (so_now (su_c (fun _ _ => .int _)))) rfl (by decide)) (ss_seq (ss_if (own' := []) (sb_cmp q_eq (so_now (su_v (by decide))) (so_now (su_c (fun _ _ => .str _)))) rfl (ss_seq (ss_ret (su_and (su_bin q_eq (so_now (su_call1 q_len (so_now (su_v (by decide))))) (so_now (su_c (fun _ _ => .int _)))) (su_and (call_ok (io := []) (ks := [.val]) (n := 1) su_is_whole (sa_val (su_bin q_ix (so_now (su_v (by decide))) (so_now (su_c (fun _ _ => .int _)))) (sa_nil)) rfl rfl (fun _ _ => .nil) (by decide)) (su_chain q_le q_lt (su_c (fun _ _ => .int _)) (su_bin q_ix (so_now (su_v (by decide))) (so_now (su_c (fun _ _ => .int _)))) (su_v (by decide))))) rfl rfl) (ss_nil)) (ss_nil)) (ss_seq (ss_if (own' := []) (sb_cmp q_eq (so_now (su_v (by decide))) (so_now (su_c (fun _ _ => .str _)))) rfl (ss_seq (ss_ret (su_and (su_bin q_eq (so_now (su_call1 q_len (so_now (su_v (by decide))))) (so_now (su_c (fun _ _ => .int _)))) (su_and (call_ok (io := []) (ks := [.val]) (n := 1) su_is_whole (sa_val (su_bin q_ix (so_now (su_v (by decide))) (so_now (su_c (fun _ _ => .int _)))) (sa_nil)) rfl rfl (fun _ _ => .nil) (by decide)) (su_bin q_ge (so_now (su_bin q_ix (so_now (su_v (by decide))) (so_now (su_c (fun _ _ => .int _))))) (so_now (su_c (fun _ _ => .int _)))))) rfl rfl) (ss_nil)) (ss_nil)) (ss_seq (ss_if (own' := []) (sb_cmp q_inP (so_now (su_v (by decide))) (so_now (su_c (fun _ _ => .tup (.cons (.str _) (.cons (.str _) (.nil))))))) rfl (ss_seq (ss_ret (su_bin q_eq (so_now (su_call1 q_len (so_now (su_v (by decide))))) (so_now (su_c (fun _ _ => .int _)))) rfl rfl) (ss_nil)) (ss_nil)) (ss_seq (ss_ret (su_and (su_bin q_inP (so_now (su_v (by decide))) (so_now (su_c (fun _ _ => .tup (.cons (.str _) (.cons (.str _) (.cons (.str _) (.nil)))))))) (su_chain q_le q_le (su_c (fun _ _ => .int _)) (su_call1 q_len (so_now (su_v (by decide)))) (su_c (fun _ _ => .int _)))) rfl rfl) (ss_nil))))))) rfl
noncomputable def ub_is_join : UF := uSeq (uReturn (uOr (uBin (uInP false) (.now (uBin uIx (.now (uV 0)) (.now (uC (.int 0))))) (.now (uC (.tup [.str "after", .str "last", .str "first"])))) (uBin (uInP false) (.now (uBin uIx (.now (uV 0)) (.now (uC (.int 0))))) (.now (uC (.tup [.str "not_before", .str "given_up"])))))) (uNop)
noncomputable def uf_is_join : List U → UQ U := uRun 1 ub_is_join
theorem su_is_join : SFn [] fn_is_join uf_is_join := sfn_run (io := []) (lo := []) (own' := []) (b := b_is_join) (q := ub_is_join) (ss_seq (ss_ret (su_or (su_bin q_inP (so_now (su_bin q_ix (so_now (su_v (by decide))) (so_now (su_c (fun _ _ => .int _))))) (so_now (su_c (fun _ _ => .tup (.cons (.str _) (.cons (.str _) (.cons (.str _) (.nil)))))))) (su_bin q_inP (so_now (su_bin q_ix (so_now (su_v (by decide))) (so_now (su_c (fun _ _ => .int _))))) (so_now (su_c (fun _ _ => .tup (.cons (.str _) (.cons (.str _) (.nil)))))))) rfl rfl) (ss_nil)) rfl
noncomputable def ub_parts_of : UF := uSeq (uIfS (uCmp (uInP false) (.now (uBin uIx (.now (uV 0)) (.now (uC (.int 0))))) (.now (uC (.tup [.str "not_before", .str "given_up"])))) (uSeq (uReturn (uTup (uCons (uTup (uCons (uC (.str "rest")) (uCons (uBin uIx (.now (uV 0)) (.now (uC (.int 1)))) (uNil)))) (uCons (uBin uIx (.now (uV 0)) (.now (uC (.int 2)))) (uNil))))) (uNop)) (uNop)) (uSeq (uIfS (uCmp (uInP false) (.now (uBin uIx (.now (uV 0)) (.now (uC (.int 0))))) (.now (uC (.tup [.str "after", .str "last", .str "first"])))) (uSeq (uReturn (uSl (.now (uV 0)) (uInt1 (uC (.int 1))) (uC .non))) (uNop)) (uNop)) (uSeq (uReturn (uTup (uNil))) (uNop)))
noncomputable def uf_parts_of : List U → UQ U := uRun 1 ub_parts_of
theorem su_parts_of : SFn [] fn_parts_of uf_parts_of := sfn_run (io := []) (lo := []) (own' := []) (b := b_parts_of) (q := ub_parts_of) (ss_seq (ss_if (own' := []) (sb_cmp q_inP (so_now (su_bin q_ix (so_now (su_v (by decide))) (so_now (su_c (fun _ _ => .int _))))) (so_now (su_c (fun _ _ => .tup (.cons (.str _) (.cons (.str _) (.nil))))))) rfl (ss_seq (ss_ret (su_tup (sl_cons (su_tup (sl_cons (su_c (fun _ _ => .str _)) (sl_cons (su_bin q_ix (so_now (su_v (by decide))) (so_now (su_c (fun _ _ => .int _)))) (sl_nil)))) (sl_cons (su_bin q_ix (so_now (su_v (by decide))) (so_now (su_c (fun _ _ => .int _)))) (sl_nil)))) rfl rfl) (ss_nil)) (ss_nil)) (ss_seq (ss_if (own' := []) (sb_cmp q_inP (so_now (su_bin q_ix (so_now (su_v (by decide))) (so_now (su_c (fun _ _ => .int _))))) (so_now (su_c (fun _ _ => .tup (.cons (.str _) (.cons (.str _) (.cons (.str _) (.nil)))))))) rfl (ss_seq (ss_ret (su_sl (so_now (su_v (by decide))) (su_int (su_c (fun _ _ => .int _))) (su_c (fun _ _ => .non))) rfl rfl) (ss_nil)) (ss_nil)) (ss_seq (ss_ret (su_tup (sl_nil)) rfl rfl) (ss_nil)))) rfl
noncomputable def ub_is_net : UF := uSeq (uSet 2 (uC (.int 0))) (uSeq (uSet 3 (uLst (uCons (uV 0) (uNil)))) (uSeq (uWhile (uOf (.late 3)) (uSeq (uSet 4 (uPop 3)) (uSeq (uIfS (uNotB (uOf (.now (uCall [0, 1] [] [.val (uV 4), .val (uV 1)] [] uf_is_begun)))) (uSeq (uReturn (uC (.bl false))) (uNop)) (uNop)) (uSeq (uIfS (uOf (.now (uCall [0] [] [.val (uV 4)] [] uf_is_join))) (uSeq (uAugI 2 (fun i j => i + j) (uC (.int 1))) (uSeq (uIfS (uCmp uGt (.now (uV 2)) (.now (uC (.int 12)))) (uSeq (uReturn (uC (.bl false))) (uNop)) (uNop)) (uSeq (uEx (uExt 3 (uCall [0] [] [.val (uV 4)] [] uf_parts_of))) (uNop)))) (uNop)) (uNop))))) (uSeq (uReturn (uC (.bl true))) (uNop))))
noncomputable def uf_is_net : List U → UQ U := uRun 5 ub_is_net
theorem su_is_net : SFn [] fn_is_net uf_is_net := sfn_run (io := []) (lo := []) (own' := [3]) (b := b_is_net) (q := ub_is_net) (ss_seq (ss_set (su_c (fun _ _ => .int _)) rfl (by decide)) (ss_seq (ss_setO (sf_lst (sl_cons (su_v (by decide)) (sl_nil))) rfl (by decide)) (ss_seq (ss_while (own := [3]) (sb_of (so_late (by decide))) rfl (ss_seq (ss_set (su_pop (by decide)) rfl (by decide)) (ss_seq (ss_if (own' := [3]) (sb_not (sb_of (so_now (call_ok (io := []) (ks := [.val, .val]) (n := 2) su_is_begun (sa_val (su_v (by decide)) (sa_val (su_v (by decide)) (sa_nil))) rfl rfl (fun _ _ => .nil) (by decide))))) rfl (ss_seq (ss_let (own1 := []) (ss_ret (su_c (fun _ _ => .bl _)) rfl rfl) rfl) (ss_nil)) (ss_nil)) (ss_seq (ss_if (own' := [3]) (sb_of (so_now (call_ok (io := []) (ks := [.val]) (n := 1) su_is_join (sa_val (su_v (by decide)) (sa_nil)) rfl rfl (fun _ _ => .nil) (by decide)))) rfl (ss_seq (ss_augI (su_c (fun _ _ => .int _)) rfl (by decide)) (ss_seq (ss_if (own' := [3]) (sb_cmp q_gt (so_now (su_v (by decide))) (so_now (su_c (fun _ _ => .int _)))) rfl (ss_seq (ss_let (own1 := []) (ss_ret (su_c (fun _ _ => .bl _)) rfl rfl) rfl) (ss_nil)) (ss_nil)) (ss_seq (ss_ex (su_ext (call_ok (io := []) (ks := [.val]) (n := 1) su_parts_of (sa_val (su_v (by decide)) (sa_nil)) rfl rfl (fun _ _ => .nil) (by decide)) (by decide)) rfl) (ss_nil)))) (ss_nil)) (ss_nil))))) (ss_seq (ss_let (own1 := []) (ss_ret (su_c (fun _ _ => .bl _)) rfl rfl) rfl) (ss_nil))))) rfl
noncomputable def ub__law_joins (rec : List U → UQ U) : UF := uSeq (uIfS (uOrB (uNotB (uOf (.now (uUn (uIsi itab [.ty "tuple"]) (.now (uV 0)))))) (uOrB (uCmp uEq0 (.now (uV 0)) (.now (uTup (uNil)))) (uNotB (uOf (.now (uUn (uIsi itab [.ty "str"]) (.now (uBin uIx (.now (uV 0)) (.now (uC (.int 0))))))))))) (uSeq (uReturn (uC (.non))) (uNop)) (uNop)) (uSeq (uIfS (uCmp (uInP false) (.now (uBin uIx (.now (uV 0)) (.now (uC (.int 0))))) (.now (uTup (uCons (uC (.str "work")) (uCons (uC (.str "rest")) (uNil)))))) (uSeq (uIfS (uOrB (uCmp uNe (.now (uUn uLen (.now (uV 0)))) (.now (uC (.int 2)))) (uOrB (uNotB (uOf (.now (uUn (uIsi itab [.ty "int"]) (.now (uBin uIx (.now (uV 0)) (.now (uC (.int 1))))))))) (uOrB (uOf (.now (uUn (uIsi itab [.ty "bool"]) (.now (uBin uIx (.now (uV 0)) (.now (uC (.int 1)))))))) (uCmp uLt (.now (uBin uIx (.now (uV 0)) (.now (uC (.int 1))))) (.now (uC (.int 0))))))) (uSeq (uReturn (uC (.non))) (uNop)) (uNop)) (uSeq (uReturn (uIf (uOrB (uCmp uEq (.now (uBin uIx (.now (uV 0)) (.now (uC (.int 0))))) (.now (uC (.str "rest")))) (uCmp uLt (.now (uBin uIx (.now (uV 0)) (.now (uC (.int 1))))) (.now (uV 1)))) (uC (.int 0)) (uC (.non)))) (uNop))) (uNop)) (uSeq (uSet 2 (uSl (.now (uV 0)) (uInt1 (uC (.int 1))) (uC .non))) (uSeq (uIfS (uCmp (uInP false) (.now (uBin uIx (.now (uV 0)) (.now (uC (.int 0))))) (.now (uTup (uCons (uC (.str "not_before")) (uCons (uC (.str "given_up")) (uNil)))))) (uSeq (uIfS (uOrB (uCmp uNe (.now (uUn uLen (.now (uV 0)))) (.now (uC (.int 3)))) (uOrB (uNotB (uOf (.now (uUn (uIsi itab [.ty "int"]) (.now (uBin uIx (.now (uV 0)) (.now (uC (.int 1))))))))) (uOrB (uOf (.now (uUn (uIsi itab [.ty "bool"]) (.now (uBin uIx (.now (uV 0)) (.now (uC (.int 1)))))))) (uCmp uLt (.now (uBin uIx (.now (uV 0)) (.now (uC (.int 1))))) (.now (uC (.int 0))))))) (uSeq (uReturn (uC (.non))) (uNop)) (uNop)) (uSeq (uSet 2 (uSl (.now (uV 0)) (uInt1 (uC (.int 2))) (uC .non))) (uNop))) (uSeq (uIfS (uOrB (uCmp (uInP true) (.now (uBin uIx (.now (uV 0)) (.now (uC (.int 0))))) (.now (uTup (uCons (uC (.str "after")) (uCons (uC (.str "last")) (uCons (uC (.str "first")) (uNil))))))) (uNotB (uBl (uChain uLe uLe (uC (.int 3)) (uUn uLen (.now (uV 0))) (uC (.int 5)))))) (uSeq (uReturn (uC (.non))) (uNop)) (uNop)) (uNop))) (uSeq (uSet 3 (uLc (uSq (uV 2)) (.nm 4) [4] (uTrue) (uCall [0, 1] [] [.val (uV 4), .val (uV 1)] [] rec))) (uSeq (uReturn (uIf (uCmp (uInP false) (.now (uC (.non))) (.now (uV 3))) (uC (.non)) (uBin uAdd (.now (uC (.int 1))) (.now (uUn uSum (.now (uV 3))))))) (uNop))))))
noncomputable def uf__law_joins : Nat → List U → UQ U
  | 0 => fun _ => .bad
  | n + 1 => uRun 5 (ub__law_joins (uf__law_joins n))
theorem su__law_joins : ∀ n, SFn [] (fn__law_joins n) (uf__law_joins n)
  | 0 => sfn_bad
  | n + 1 => sfn_run (io := []) (lo := []) (own' := []) (b := b__law_joins (fn__law_joins n)) (q := ub__law_joins (uf__law_joins n)) (ss_seq (ss_if (own' := []) (sb_or (sb_not (sb_of (so_now (su_un q_isi (so_now (su_v (by decide))))))) (sb_or (sb_cmp q_eq0 (so_now (su_v (by decide))) (so_now (su_tup (sl_nil)))) (sb_not (sb_of (so_now (su_un q_isi (so_now (su_bin q_ix (so_now (su_v (by decide))) (so_now (su_c (fun _ _ => .int _))))))))))) rfl (ss_seq (ss_ret (su_c (fun _ _ => .non)) rfl rfl) (ss_nil)) (ss_nil)) (ss_seq (ss_if (own' := []) (sb_cmp q_inP (so_now (su_bin q_ix (so_now (su_v (by decide))) (so_now (su_c (fun _ _ => .int _))))) (so_now (su_tup (sl_cons (su_c (fun _ _ => .str _)) (sl_cons (su_c (fun _ _ => .str _)) (sl_nil)))))) rfl (ss_seq (ss_if (own' := []) (sb_or (sb_cmp q_ne (so_now (su_call1 q_len (so_now (su_v (by decide))))) (so_now (su_c (fun _ _ => .int _)))) (sb_or (sb_not (sb_of (so_now (su_un q_isi (so_now (su_bin q_ix (so_now (su_v (by decide))) (so_now (su_c (fun _ _ => .int _))))))))) (sb_or (sb_of (so_now (su_un q_isi (so_now (su_bin q_ix (so_now (su_v (by decide))) (so_now (su_c (fun _ _ => .int _)))))))) (sb_cmp q_lt (so_now (su_bin q_ix (so_now (su_v (by decide))) (so_now (su_c (fun _ _ => .int _))))) (so_now (su_c (fun _ _ => .int _))))))) rfl (ss_seq (ss_ret (su_c (fun _ _ => .non)) rfl rfl) (ss_nil)) (ss_nil)) (ss_seq (ss_ret (su_if (sb_or (sb_cmp q_eq (so_now (su_bin q_ix (so_now (su_v (by decide))) (so_now (su_c (fun _ _ => .int _))))) (so_now (su_c (fun _ _ => .str _)))) (sb_cmp q_lt (so_now (su_bin q_ix (so_now (su_v (by decide))) (so_now (su_c (fun _ _ => .int _))))) (so_now (su_v (by decide))))) (su_c (fun _ _ => .int _)) (su_c (fun _ _ => .non))) rfl rfl) (ss_nil))) (ss_nil)) (ss_seq (ss_set (su_sl (so_now (su_v (by decide))) (su_int (su_c (fun _ _ => .int _))) (su_c (fun _ _ => .non))) rfl (by decide)) (ss_seq (ss_if (own' := []) (sb_cmp q_inP (so_now (su_bin q_ix (so_now (su_v (by decide))) (so_now (su_c (fun _ _ => .int _))))) (so_now (su_tup (sl_cons (su_c (fun _ _ => .str _)) (sl_cons (su_c (fun _ _ => .str _)) (sl_nil)))))) rfl (ss_seq (ss_if (own' := []) (sb_or (sb_cmp q_ne (so_now (su_call1 q_len (so_now (su_v (by decide))))) (so_now (su_c (fun _ _ => .int _)))) (sb_or (sb_not (sb_of (so_now (su_un q_isi (so_now (su_bin q_ix (so_now (su_v (by decide))) (so_now (su_c (fun _ _ => .int _))))))))) (sb_or (sb_of (so_now (su_un q_isi (so_now (su_bin q_ix (so_now (su_v (by decide))) (so_now (su_c (fun _ _ => .int _)))))))) (sb_cmp q_lt (so_now (su_bin q_ix (so_now (su_v (by decide))) (so_now (su_c (fun _ _ => .int _))))) (so_now (su_c (fun _ _ => .int _))))))) rfl (ss_seq (ss_ret (su_c (fun _ _ => .non)) rfl rfl) (ss_nil)) (ss_nil)) (ss_seq (ss_set (su_sl (so_now (su_v (by decide))) (su_int (su_c (fun _ _ => .int _))) (su_c (fun _ _ => .non))) rfl (by decide)) (ss_nil))) (ss_seq (ss_if (own' := []) (sb_or (sb_cmp q_inP (so_now (su_bin q_ix (so_now (su_v (by decide))) (so_now (su_c (fun _ _ => .int _))))) (so_now (su_tup (sl_cons (su_c (fun _ _ => .str _)) (sl_cons (su_c (fun _ _ => .str _)) (sl_cons (su_c (fun _ _ => .str _)) (sl_nil))))))) (sb_not (sb_bl (su_chain q_le q_le (su_c (fun _ _ => .int _)) (su_call1 q_len (so_now (su_v (by decide)))) (su_c (fun _ _ => .int _)))))) rfl (ss_seq (ss_ret (su_c (fun _ _ => .non)) rfl rfl) (ss_nil)) (ss_nil)) (ss_nil))) (ss_seq (ss_set (se_f (sf_lc (ws := [4]) (si_seq (su_v (by decide))) (sb_true) (call_ok (io := []) (ks := [.val, .val]) (n := 2) (su__law_joins n) (sa_val (su_v (by decide)) (sa_val (su_v (by decide)) (sa_nil))) rfl rfl (fun _ _ => .nil) (by decide)) (by decide) (by decide))) rfl (by decide)) (ss_seq (ss_ret (su_if (sb_cmp q_inP (so_now (su_c (fun _ _ => .non))) (so_now (su_v (by decide)))) (su_c (fun _ _ => .non)) (su_bin q_add (so_now (su_c (fun _ _ => .int _))) (so_now (su_call1 q_sum (so_now (su_v (by decide))))))) rfl rfl) (ss_nil))))))) rfl
noncomputable def ub__law_due : UF := uSeq (uSet 2 (uCall [0, 1] [] [.val (uV 0), .val (uV 1)] [] (uf__law_joins fuel__law_joins))) (uSeq (uReturn (uAnd (uBin (uIsN true) (.now (uV 2)) (.now (uC (.non)))) (uBin uLe (.now (uV 2)) (.now (uC (.int 12)))))) (uNop))
noncomputable def uf__law_due : List U → UQ U := uRun 3 ub__law_due
theorem su__law_due : SFn [] fn__law_due uf__law_due := sfn_run (io := []) (lo := []) (own' := []) (b := b__law_due) (q := ub__law_due) (ss_seq (ss_set (call_ok (io := []) (ks := [.val, .val]) (n := 2) (su__law_joins fuel__law_joins) (sa_val (su_v (by decide)) (sa_val (su_v (by decide)) (sa_nil))) rfl rfl (fun _ _ => .nil) (by decide)) rfl (by decide)) (ss_seq (ss_ret (su_and (su_bin q_isN (so_now (su_v (by decide))) (so_now (su_c (fun _ _ => .non)))) (su_bin q_le (so_now (su_v (by decide))) (so_now (su_c (fun _ _ => .int _))))) rfl rfl) (ss_nil))) rfl
noncomputable def ub__law_asked_right : UF := uSeq (uPar 2 3 [.val (uUn uRepr2 (.now (uV 0))), .val (uCall [0, 1] [] [.val (uV 0), .val (uV 1)] [] uf__law_due)]) (uSeq (uSet 4 (uLst (uCons (uCall [0, 1] [] [.val (uV 0), .val (uV 1)] [] uf_is_net) (uCons (uCall [0, 1] [] [.val (uV 0), .val (uV 1)] [] uf_is_net) (uNil))))) (uSeq (uReturn (uAnd (uBin uEq (.now (uUn uRepr2 (.now (uV 4)))) (.now (uUn uRepr2 (.now (uLst (uCons (uV 3) (uCons (uV 3) (uNil)))))))) (uBin uEq (.now (uUn uRepr2 (.now (uV 0)))) (.now (uV 2))))) (uNop)))
noncomputable def uf__law_asked_right : List U → UQ U := uRun 5 ub__law_asked_right
theorem su__law_asked_right : SFn [] fn__law_asked_right uf__law_asked_right := sfn_run (io := []) (lo := []) (own' := []) (b := b__law_asked_right) (q := ub__law_asked_right) (ss_seq ((show SS _ _ _ _ [] [] _ _ from ss_par (sa_val (su_call1 q_repr2 (so_now (su_v (by decide)))) (sa_val (call_ok (io := []) (ks := [.val, .val]) (n := 2) su__law_due (sa_val (su_v (by decide)) (sa_val (su_v (by decide)) (sa_nil))) rfl rfl (fun _ _ => .nil) (by decide)) (sa_nil))) rfl ⟨rfl, by decide⟩ ⟨rfl, by decide⟩ (by decide))) (ss_seq (ss_set (su_lst (sl_cons (call_ok (io := []) (ks := [.val, .val]) (n := 2) su_is_net (sa_val (su_v (by decide)) (sa_val (su_v (by decide)) (sa_nil))) rfl rfl (fun _ _ => .nil) (by decide)) (sl_cons (call_ok (io := []) (ks := [.val, .val]) (n := 2) su_is_net (sa_val (su_v (by decide)) (sa_val (su_v (by decide)) (sa_nil))) rfl rfl (fun _ _ => .nil) (by decide)) (sl_nil)))) rfl (by decide)) (ss_seq (ss_ret (su_and (su_bin q_eq (so_now (su_call1 q_repr2 (so_now (su_v (by decide))))) (so_now (su_call1 q_repr2 (so_now (su_lst (sl_cons (su_v (by decide)) (sl_cons (su_v (by decide)) (sl_nil)))))))) (su_bin q_eq (so_now (su_call1 q_repr2 (so_now (su_v (by decide))))) (so_now (su_v (by decide))))) rfl rfl) (ss_nil)))) rfl
noncomputable def ub__law_odd_i0 : UF := uSeq (uSet 2 (uLst (uCons (uC (.non)) (uCons (uC (.bl true)) (uCons (uC (.bl false)) (uCons (uUn uNeg (.now (uC (.int 1)))) (uCons (uC (.int 0)) (uCons (uV 1) (uCons (uC (.int 7)) (uCons (uC (.str "work")) (uCons (uC (.str "rest")) (uCons (uC (.str "last")) (uCons (uC (.str "")) (uCons (uTup (uNil)) (uCons (uLst (uNil)) (uCons (uC .emp) (uCons (uTup (uCons (uC (.str "work")) (uNil))) (uCons (uTup (uCons (uC (.str "rest")) (uCons (uUn uNeg (.now (uC (.int 1)))) (uNil)))) (uNil))))))))))))))))))) (uSeq (uSet 2 (uBin uAdd (.now (uV 2)) (.now (uLst (uCons (uTup (uCons (uC (.str "work")) (uCons (uV 1) (uNil)))) (uCons (uTup (uCons (uC (.str "work")) (uCons (uC (.int 0)) (uNil)))) (uCons (uTup (uCons (uC (.str "rest")) (uCons (uC (.int 0)) (uNil)))) (uCons (uTup (uCons (uC (.str "after")) (uCons (uTup (uCons (uC (.str "rest")) (uCons (uC (.int 1)) (uNil)))) (uNil)))) (uCons (uLst (uCons (uC (.str "rest")) (uCons (uC (.int 1)) (uNil)))) (uCons (uTup (uCons (uC (.str "rest")) (uCons (uC (.bl true)) (uNil)))) (uNil))))))))))) (uSeq (uReturn (uCall [0, 1] [] [.io 0, .val (uBin uAdd (.now (uV 2)) (.now (uLst (uCons (uC (.str "not_before")) (uCons (uC (.str "given_up")) (uCons (uC (.str "first")) (uCons (uC (.str "after")) (uCons (uC (.str "later")) (uCons (uBin uAdd (.now (uTup (uCons (uC (.str "last")) (uNil)))) (.now (uBin uMul (.now (uTup (uCons (uTup (uCons (uC (.str "rest")) (uCons (uC (.int 1)) (uNil)))) (uNil)))) (.now (uC (.int 5)))))) (uNil))))))))))] [(0, 0)] uf__law_of_i0)) (uNop)))
noncomputable def uf__law_odd_i0 : List U → UQ U := uRun 3 ub__law_odd_i0
theorem su__law_odd_i0 : SFn [0] fn__law_odd uf__law_odd_i0 := sfn_run (io := [0]) (lo := [0]) (own' := [0]) (b := b__law_odd) (q := ub__law_odd_i0) (ss_seq (ss_set (su_lst (sl_cons (su_c (fun _ _ => .non)) (sl_cons (su_c (fun _ _ => .bl _)) (sl_cons (su_c (fun _ _ => .bl _)) (sl_cons (su_un q_neg (so_now (su_c (fun _ _ => .int _)))) (sl_cons (su_c (fun _ _ => .int _)) (sl_cons (su_v (by decide)) (sl_cons (su_c (fun _ _ => .int _)) (sl_cons (su_c (fun _ _ => .str _)) (sl_cons (su_c (fun _ _ => .str _)) (sl_cons (su_c (fun _ _ => .str _)) (sl_cons (su_c (fun _ _ => .str _)) (sl_cons (su_tup (sl_nil)) (sl_cons (su_lst (sl_nil)) (sl_cons (su_emp) (sl_cons (su_tup (sl_cons (su_c (fun _ _ => .str _)) (sl_nil))) (sl_cons (su_tup (sl_cons (su_c (fun _ _ => .str _)) (sl_cons (su_un q_neg (so_now (su_c (fun _ _ => .int _)))) (sl_nil)))) (sl_nil)))))))))))))))))) rfl (by decide)) (ss_seq (ss_set (su_bin q_add (so_now (su_v (by decide))) (so_now (su_lst (sl_cons (su_tup (sl_cons (su_c (fun _ _ => .str _)) (sl_cons (su_v (by decide)) (sl_nil)))) (sl_cons (su_tup (sl_cons (su_c (fun _ _ => .str _)) (sl_cons (su_c (fun _ _ => .int _)) (sl_nil)))) (sl_cons (su_tup (sl_cons (su_c (fun _ _ => .str _)) (sl_cons (su_c (fun _ _ => .int _)) (sl_nil)))) (sl_cons (su_tup (sl_cons (su_c (fun _ _ => .str _)) (sl_cons (su_tup (sl_cons (su_c (fun _ _ => .str _)) (sl_cons (su_c (fun _ _ => .int _)) (sl_nil)))) (sl_nil)))) (sl_cons (su_lst (sl_cons (su_c (fun _ _ => .str _)) (sl_cons (su_c (fun _ _ => .int _)) (sl_nil)))) (sl_cons (su_tup (sl_cons (su_c (fun _ _ => .str _)) (sl_cons (su_c (fun _ _ => .bl _)) (sl_nil)))) (sl_nil)))))))))) rfl (by decide)) (ss_seq (ss_ret (call_ok (io := [0]) (ks := [.io 0, .val]) (n := 2) su__law_of_i0 (sa_io (sa_val (su_bin q_add (so_now (su_v (by decide))) (so_now (su_lst (sl_cons (su_c (fun _ _ => .str _)) (sl_cons (su_c (fun _ _ => .str _)) (sl_cons (su_c (fun _ _ => .str _)) (sl_cons (su_c (fun _ _ => .str _)) (sl_cons (su_c (fun _ _ => .str _)) (sl_cons (su_bin q_add (so_now (su_tup (sl_cons (su_c (fun _ _ => .str _)) (sl_nil)))) (so_now (su_bin q_mul (so_now (su_tup (sl_cons (su_tup (sl_cons (su_c (fun _ _ => .str _)) (sl_cons (su_c (fun _ _ => .int _)) (sl_nil)))) (sl_nil)))) (so_now (su_c (fun _ _ => .int _)))))) (sl_nil)))))))))) (sa_nil)) (by decide)) rfl rfl (fun _ _ => .nil) (by decide)) rfl rfl) (ss_nil)))) rfl
noncomputable def ub__law_otherwise_i0 (rec : List U → UQ U) : UF := uSeq (uIfS (uAndB (uOf (.now (uUn (uIsi itab [.ty "tuple"]) (.now (uV 1))))) (uAndB (uCmp uNe0 (.now (uV 1)) (.now (uTup (uNil)))) (uCmp uGt (.now (uCall [0, 1] [] [.io 0, .val (uC (.int 5))] [(0, 0)] uf__law_take_i0)) (.now (uC (.int 0)))))) (uSeq (uSet 5 (uCall [0, 1] [] [.io 0, .val (uUn uLen (.now (uV 1)))] [(0, 0)] uf__law_take_i0)) (uSeq (uReturn (uBin uAdd (.now (uBin uAdd (.now (uSl (.now (uV 1)) (uC .non) (uInt1 (uV 5)))) (.now (uTup (uCons (uCall [0, 1, 2] [] [.io 0, .val (uBin uIx (.now (uV 1)) (.now (uV 5))), .val (uV 2)] [(0, 0)] rec) (uNil)))))) (.now (uSl (.now (uV 1)) (uInt1 (uBin uAdd (.now (uV 5)) (.now (uC (.int 1))))) (uC .non))))) (uNop))) (uNop)) (uSeq (uPar 3 4 [.val (uCall [0, 1] [] [.io 0, .val (uC (.int 7))] [(0, 0)] uf__law_take_i0), .val (uCall [0, 1] [] [.io 0, .val (uV 2)] [(0, 0)] uf__law_odd_i0)]) (uSeq (uIfS (uOrB (uNotB (uOf (.now (uUn (uIsi itab [.ty "tuple"]) (.now (uV 1)))))) (uCmp uGt (.now (uV 3)) (.now (uC (.int 4))))) (uSeq (uReturn (uV 4)) (uNop)) (uNop)) (uSeq (uSet 5 (uCall [0, 1] [] [.io 0, .val (uBin uAdd (.now (uUn uLen (.now (uV 1)))) (.now (uC (.int 1))))] [(0, 0)] uf__law_take_i0)) (uSeq (uSet 6 (uLst (uCons (uBin uAdd (.now (uSl (.now (uV 1)) (uC .non) (uInt1 (uV 5)))) (.now (uSl (.now (uV 1)) (uInt1 (uBin uAdd (.now (uV 5)) (.now (uC (.int 1))))) (uC .non)))) (uCons (uBin uAdd (.now (uBin uAdd (.now (uSl (.now (uV 1)) (uC .non) (uInt1 (uV 5)))) (.now (uTup (uCons (uV 4) (uNil)))))) (.now (uSl (.now (uV 1)) (uInt1 (uV 5)) (uC .non)))) (uCons (uBin uAdd (.now (uBin uAdd (.now (uSl (.now (uV 1)) (uC .non) (uInt1 (uV 5)))) (.now (uSl (.now (uV 1)) (uInt1 (uV 5)) (uInt1 (uBin uAdd (.now (uV 5)) (.now (uC (.int 1))))))))) (.now (uSl (.now (uV 1)) (uInt1 (uV 5)) (uC .non)))) (uNil)))))) (uSeq (uReturn (uBin uIx (.now (uBin uAdd (.now (uV 6)) (.now (uLst (uCons (uUn uToList (.now (uV 1))) (uCons (uUn uRevT (.now (uV 1))) (uNil))))))) (.now (uV 3)))) (uNop))))))
noncomputable def uf__law_otherwise_i0 : Nat → List U → UQ U
  | 0 => fun _ => .bad
  | n + 1 => uRun 7 (ub__law_otherwise_i0 (uf__law_otherwise_i0 n))
theorem su__law_otherwise_i0 : ∀ n, SFn [0] (fn__law_otherwise n) (uf__law_otherwise_i0 n)
  | 0 => sfn_bad
  | n + 1 => sfn_run (io := [0]) (lo := [0]) (own' := [0]) (b := b__law_otherwise (fn__law_otherwise n)) (q := ub__law_otherwise_i0 (uf__law_otherwise_i0 n)) (ss_seq (ss_if (own' := [0]) (sb_and (sb_of (so_now (su_un q_isi (so_now (su_v (by decide)))))) (sb_and (sb_cmp q_ne0 (so_now (su_v (by decide))) (so_now (su_tup (sl_nil)))) (sb_cmp q_gt (so_now (call_ok (io := [0]) (ks := [.io 0, .val]) (n := 2) su__law_take_i0 (sa_io (sa_val (su_c (fun _ _ => .int _)) (sa_nil)) (by decide)) rfl rfl (fun _ _ => .nil) (by decide))) (so_now (su_c (fun _ _ => .int _)))))) rfl (ss_seq (ss_set (call_ok (io := [0]) (ks := [.io 0, .val]) (n := 2) su__law_take_i0 (sa_io (sa_val (su_call1 q_len (so_now (su_v (by decide)))) (sa_nil)) (by decide)) rfl rfl (fun _ _ => .nil) (by decide)) rfl (by decide)) (ss_seq (ss_ret (su_bin q_add (so_now (su_bin q_add (so_now (su_sl (so_now (su_v (by decide))) (su_c (fun _ _ => .non)) (su_int (su_v (by decide))))) (so_now (su_tup (sl_cons (call_ok (io := [0]) (ks := [.io 0, .val, .val]) (n := 3) (su__law_otherwise_i0 n) (sa_io (sa_val (su_bin q_ix (so_now (su_v (by decide))) (so_now (su_v (by decide)))) (sa_val (su_v (by decide)) (sa_nil))) (by decide)) rfl rfl (fun _ _ => .nil) (by decide)) (sl_nil)))))) (so_now (su_sl (so_now (su_v (by decide))) (su_int (su_bin q_add (so_now (su_v (by decide))) (so_now (su_c (fun _ _ => .int _))))) (su_c (fun _ _ => .non))))) rfl rfl) (ss_nil))) (ss_nil)) (ss_seq ((show SS _ _ _ _ [0] [0] _ _ from ss_par (sa_val (call_ok (io := [0]) (ks := [.io 0, .val]) (n := 2) su__law_take_i0 (sa_io (sa_val (su_c (fun _ _ => .int _)) (sa_nil)) (by decide)) rfl rfl (fun _ _ => .nil) (by decide)) (sa_val (call_ok (io := [0]) (ks := [.io 0, .val]) (n := 2) su__law_odd_i0 (sa_io (sa_val (su_v (by decide)) (sa_nil)) (by decide)) rfl rfl (fun _ _ => .nil) (by decide)) (sa_nil))) rfl ⟨rfl, by decide⟩ ⟨rfl, by decide⟩ (by decide))) (ss_seq (ss_if (own' := [0]) (sb_or (sb_not (sb_of (so_now (su_un q_isi (so_now (su_v (by decide))))))) (sb_cmp q_gt (so_now (su_v (by decide))) (so_now (su_c (fun _ _ => .int _))))) rfl (ss_seq (ss_ret (su_v (by decide)) rfl rfl) (ss_nil)) (ss_nil)) (ss_seq (ss_set (call_ok (io := [0]) (ks := [.io 0, .val]) (n := 2) su__law_take_i0 (sa_io (sa_val (su_bin q_add (so_now (su_call1 q_len (so_now (su_v (by decide))))) (so_now (su_c (fun _ _ => .int _)))) (sa_nil)) (by decide)) rfl rfl (fun _ _ => .nil) (by decide)) rfl (by decide)) (ss_seq (ss_set (su_lst (sl_cons (su_bin q_add (so_now (su_sl (so_now (su_v (by decide))) (su_c (fun _ _ => .non)) (su_int (su_v (by decide))))) (so_now (su_sl (so_now (su_v (by decide))) (su_int (su_bin q_add (so_now (su_v (by decide))) (so_now (su_c (fun _ _ => .int _))))) (su_c (fun _ _ => .non))))) (sl_cons (su_bin q_add (so_now (su_bin q_add (so_now (su_sl (so_now (su_v (by decide))) (su_c (fun _ _ => .non)) (su_int (su_v (by decide))))) (so_now (su_tup (sl_cons (su_v (by decide)) (sl_nil)))))) (so_now (su_sl (so_now (su_v (by decide))) (su_int (su_v (by decide))) (su_c (fun _ _ => .non))))) (sl_cons (su_bin q_add (so_now (su_bin q_add (so_now (su_sl (so_now (su_v (by decide))) (su_c (fun _ _ => .non)) (su_int (su_v (by decide))))) (so_now (su_sl (so_now (su_v (by decide))) (su_int (su_v (by decide))) (su_int (su_bin q_add (so_now (su_v (by decide))) (so_now (su_c (fun _ _ => .int _))))))))) (so_now (su_sl (so_now (su_v (by decide))) (su_int (su_v (by decide))) (su_c (fun _ _ => .non))))) (sl_nil))))) rfl (by decide)) (ss_seq (ss_ret (su_bin q_ix (so_now (su_bin q_add (so_now (su_v (by decide))) (so_now (su_lst (sl_cons (su_call1 q_list (so_now (su_v (by decide)))) (sl_cons (su_un q_revT (so_now (su_v (by decide)))) (sl_nil))))))) (so_now (su_v (by decide)))) rfl rfl) (ss_nil))))))) rfl
noncomputable def ub__law_right_i0 : UF := uSeq (uSet 1 (uBin uAdd (.now (uC (.int 1))) (.now (uCall [0, 1] [] [.io 0, .val (uC (.int 6))] [(0, 0)] uf__law_take_i0)))) (uSeq (uSet 2 (uLst (uCons (uCall [0, 1, 2] [] [.io 0, .val (uV 1), .fresh (uLst (uCons (uCall [0, 1] [] [.io 0, .val (uC (.int 13))] [(0, 0)] uf__law_take_i0) (uNil)))] [(0, 0)] (uf__law_net_i02 fuel__law_net)) (uNil)))) (uSeq (uEx (uExt 2 (uLst (uCons (uCall [0, 1, 2] [] [.io 0, .val (uV 1), .val (uC (.int 12))] [(0, 0)] uf__law_deep_i0) (uCons (uCall [0, 1, 2] [] [.io 0, .val (uV 1), .val (uC (.int 13))] [(0, 0)] uf__law_deep_i0) (uNil)))))) (uSeq (uEx (uApp 2 (uBin uAdd (.now (uTup (uCons (uC (.str "after")) (uNil)))) (.now (uUn uTuple (.now (uLc (uRng (uC (.int 4))) (.nm 4) [4] (uTrue) (uCall [0, 1, 2] [] [.io 0, .val (uV 1), .val (uBin uAdd (.now (uC (.int 3))) (.now (uBin uDiv (.now (uV 4)) (.now (uC (.int 3))))))] [(0, 0)] uf__law_deep_i0)))))))) (uSeq (uIfS (uCmp uNe (.now (uLc (uSq (uSl (.late 2) (uC .non) (uInt1 (uC (.int 3))))) (.nm 3) [3] (uTrue) (uCall [0, 1] [] [.val (uV 3), .val (uV 1)] [] uf_is_net))) (.now (uLst (uCons (uC (.bl true)) (uCons (uC (.bl true)) (uCons (uC (.bl false)) (uNil))))))) (uSeq (uReturn (uC (.bl false))) (uNop)) (uNop)) (uSeq (uFor (uSq (uV 2)) (.nm 3) (uSeq (uIfS (uNotB (uOf (.now (uUn uAll (.now (uLc (uRng (uC (.int 7))) (.nm 6) [6] (uTrue) (uCall [0, 1] [] [.val (uV 3), .val (uV 6)] [] uf__law_asked_right))))))) (uSeq (uReturn (uC (.bl false))) (uNop)) (uNop)) (uSeq (uFor (uRng (uC (.int 20))) (.nm 4) (uSeq (uSet 5 (uCall [0, 1, 2] [] [.io 0, .val (uV 3), .val (uV 1)] [(0, 0)] (uf__law_otherwise_i0 fuel__law_otherwise))) (uSeq (uIfS (uCmp uEq (.now (uCall [0, 1] [] [.io 0, .val (uC (.int 4))] [(0, 0)] uf__law_take_i0)) (.now (uC (.int 0)))) (uSeq (uSet 5 (uCall [0, 1, 2] [] [.io 0, .val (uV 5), .val (uV 1)] [(0, 0)] (uf__law_otherwise_i0 fuel__law_otherwise))) (uNop)) (uNop)) (uSeq (uIfS (uNotB (uOf (.now (uCall [0, 1] [] [.val (uV 5), .val (uV 1)] [] uf__law_asked_right)))) (uSeq (uReturn (uC (.bl false))) (uNop)) (uNop)) (uNop))))) (uNop)))) (uSeq (uReturn (uAnd (uBin uEq (.now (uC (.int 12))) (.now (uC (.int 12)))) (uUn uAll (.now (uLc (uRng (uC (.int 6))) (.nm 4) [4] (uTrue) (uCall [0, 1] [] [.val (uCall [0, 1] [] [.io 0, .val (uV 1)] [(0, 0)] uf__law_odd_i0), .val (uV 1)] [] uf__law_asked_right)))))) (uNop)))))))
noncomputable def uf__law_right_i0 : List U → UQ U := uRun 7 ub__law_right_i0
theorem su__law_right_i0 : SFn [0] fn__law_right uf__law_right_i0 := sfn_run (io := [0]) (lo := [0]) (own' := [0]) (b := b__law_right) (q := ub__law_right_i0) (ss_seq (ss_set (su_bin q_add (so_now (su_c (fun _ _ => .int _))) (so_now (call_ok (io := [0]) (ks := [.io 0, .val]) (n := 2) su__law_take_i0 (sa_io (sa_val (su_c (fun _ _ => .int _)) (sa_nil)) (by decide)) rfl rfl (fun _ _ => .nil) (by decide)))) rfl (by decide)) (ss_seq (ss_setO (sf_lst (sl_cons (call_ok (io := [0, 2]) (ks := [.io 0, .val, .fresh]) (n := 3) (su__law_net_i02 fuel__law_net) (sa_io (sa_val (su_v (by decide)) (sa_fresh (sf_lst (sl_cons (call_ok (io := [0]) (ks := [.io 0, .val]) (n := 2) su__law_take_i0 (sa_io (sa_val (su_c (fun _ _ => .int _)) (sa_nil)) (by decide)) rfl rfl (fun _ _ => .nil) (by decide)) (sl_nil))) (sa_nil))) (by decide)) rfl rfl (fun _ _ => .nil) (by decide)) (sl_nil))) rfl (by decide)) (ss_seq (ss_ex (su_ext (su_lst (sl_cons (call_ok (io := [0]) (ks := [.io 0, .val, .val]) (n := 3) su__law_deep_i0 (sa_io (sa_val (su_v (by decide)) (sa_val (su_c (fun _ _ => .int _)) (sa_nil))) (by decide)) rfl rfl (fun _ _ => .nil) (by decide)) (sl_cons (call_ok (io := [0]) (ks := [.io 0, .val, .val]) (n := 3) su__law_deep_i0 (sa_io (sa_val (su_v (by decide)) (sa_val (su_c (fun _ _ => .int _)) (sa_nil))) (by decide)) rfl rfl (fun _ _ => .nil) (by decide)) (sl_nil)))) (by decide)) rfl) (ss_seq (ss_ex (su_app (su_bin q_add (so_now (su_tup (sl_cons (su_c (fun _ _ => .str _)) (sl_nil)))) (so_now (su_call1 q_tuple (so_now (se_f (sf_lc (ws := [4]) (si_rng (su_c (fun _ _ => .int _))) (sb_true) (call_ok (io := [0]) (ks := [.io 0, .val, .val]) (n := 3) su__law_deep_i0 (sa_io (sa_val (su_v (by decide)) (sa_val (su_bin q_add (so_now (su_c (fun _ _ => .int _))) (so_now (su_bin q_div (so_now (su_v (by decide))) (so_now (su_c (fun _ _ => .int _)))))) (sa_nil))) (by decide)) rfl rfl (fun _ _ => .nil) (by decide)) (by decide) (by decide))))))) (by decide)) rfl) (ss_seq (ss_if (own' := [2, 0]) (sb_cmp q_ne (so_now (se_f (sf_lc (ws := [3]) (si_seq (su_sl (so_late (by decide)) (su_c (fun _ _ => .non)) (su_int (su_c (fun _ _ => .int _))))) (sb_true) (call_ok (io := []) (ks := [.val, .val]) (n := 2) su_is_net (sa_val (su_v (by decide)) (sa_val (su_v (by decide)) (sa_nil))) rfl rfl (fun _ _ => .nil) (by decide)) (by decide) (by decide)))) (so_now (su_lst (sl_cons (su_c (fun _ _ => .bl _)) (sl_cons (su_c (fun _ _ => .bl _)) (sl_cons (su_c (fun _ _ => .bl _)) (sl_nil))))))) rfl (ss_seq (ss_let (own1 := [0]) (ss_ret (su_c (fun _ _ => .bl _)) rfl rfl) rfl) (ss_nil)) (ss_nil)) (ss_seq (ss_let (own1 := [0]) (ss_for (own := [0]) (si_seq (su_v (by decide))) rfl (by decide) (ss_seq (ss_if (own' := [0]) (sb_not (sb_of (so_now (su_call1 q_all (so_now (se_f (sf_lc (ws := [6]) (si_rng (su_c (fun _ _ => .int _))) (sb_true) (call_ok (io := []) (ks := [.val, .val]) (n := 2) su__law_asked_right (sa_val (su_v (by decide)) (sa_val (su_v (by decide)) (sa_nil))) rfl rfl (fun _ _ => .nil) (by decide)) (by decide) (by decide)))))))) rfl (ss_seq (ss_ret (su_c (fun _ _ => .bl _)) rfl rfl) (ss_nil)) (ss_nil)) (ss_seq (ss_for (own := [0]) (si_rng (su_c (fun _ _ => .int _))) rfl (by decide) (ss_seq (ss_set (call_ok (io := [0]) (ks := [.io 0, .val, .val]) (n := 3) (su__law_otherwise_i0 fuel__law_otherwise) (sa_io (sa_val (su_v (by decide)) (sa_val (su_v (by decide)) (sa_nil))) (by decide)) rfl rfl (fun _ _ => .nil) (by decide)) rfl (by decide)) (ss_seq (ss_if (own' := [0]) (sb_cmp q_eq (so_now (call_ok (io := [0]) (ks := [.io 0, .val]) (n := 2) su__law_take_i0 (sa_io (sa_val (su_c (fun _ _ => .int _)) (sa_nil)) (by decide)) rfl rfl (fun _ _ => .nil) (by decide))) (so_now (su_c (fun _ _ => .int _)))) rfl (ss_seq (ss_set (call_ok (io := [0]) (ks := [.io 0, .val, .val]) (n := 3) (su__law_otherwise_i0 fuel__law_otherwise) (sa_io (sa_val (su_v (by decide)) (sa_val (su_v (by decide)) (sa_nil))) (by decide)) rfl rfl (fun _ _ => .nil) (by decide)) rfl (by decide)) (ss_nil)) (ss_nil)) (ss_seq (ss_if (own' := [0]) (sb_not (sb_of (so_now (call_ok (io := []) (ks := [.val, .val]) (n := 2) su__law_asked_right (sa_val (su_v (by decide)) (sa_val (su_v (by decide)) (sa_nil))) rfl rfl (fun _ _ => .nil) (by decide))))) rfl (ss_seq (ss_ret (su_c (fun _ _ => .bl _)) rfl rfl) (ss_nil)) (ss_nil)) (ss_nil))))) (ss_nil)))) rfl) (ss_seq (ss_ret (su_and (su_bin q_eq (so_now (su_c (fun _ _ => .int _))) (so_now (su_c (fun _ _ => .int _)))) (su_call1 q_all (so_now (se_f (sf_lc (ws := [4]) (si_rng (su_c (fun _ _ => .int _))) (sb_true) (call_ok (io := []) (ks := [.val, .val]) (n := 2) su__law_asked_right (sa_val (call_ok (io := [0]) (ks := [.io 0, .val]) (n := 2) su__law_odd_i0 (sa_io (sa_val (su_v (by decide)) (sa_nil)) (by decide)) rfl rfl (fun _ _ => .nil) (by decide)) (sa_val (su_v (by decide)) (sa_nil))) rfl rfl (fun _ _ => .nil) (by decide)) (by decide) (by decide)))))) rfl rfl) (ss_nil)))))))) rfl
noncomputable def ub_law : UF := uSeq (uReturn (uUn uAll (.now (uLc (uRng (uBin uMax2 (.now (uC (.int 1))) (.now (uBin uMin2 (.now (uC (.int 4))) (.now (uUn uLen (.now (uV 0)))))))) (.nm 1) [1] (uTrue) (uCall [0] [] [.fresh (uCall [0, 1] [] [.val (uV 0), .val (uV 1)] [] uf__law_pot_F)] [] uf__law_right_i0))))) (uNop)
noncomputable def uf_law : List U → UQ U := uRun 2 ub_law
theorem su_law : SFn [] fn_law uf_law := sfn_run (io := []) (lo := []) (own' := []) (b := b_law) (q := ub_law) (ss_seq (ss_ret (su_call1 q_all (so_now (se_f (sf_lc (ws := [1]) (si_rng (su_call2 q_max2 (so_now (su_c (fun _ _ => .int _))) (so_now (su_call2 q_min2 (so_now (su_c (fun _ _ => .int _))) (so_now (su_call1 q_len (so_now (su_v (by decide))))))))) (sb_true) (call_ok (io := [0]) (ks := [.fresh]) (n := 1) su__law_right_i0 (sa_fresh (call_okF (io := []) (ks := [.val, .val]) (n := 2) su__law_pot_F (sa_val (su_v (by decide)) (sa_val (su_v (by decide)) (sa_nil))) rfl rfl (fun _ _ => .nil) (by decide)) (sa_nil)) rfl rfl (fun _ _ => .nil) (by decide)) (by decide) (by decide))))) rfl rfl) (ss_nil)) rfl
end P
namespace Z
open PySem PySem.Spec PyProof.Rows L2
/-! ## numbers of so many bits -/
def Bt (k : Nat) (i : Int) : Prop := i.natAbs < 2 ^ k
theorem log_le {i : Int} {k : Nat} (h : i.natAbs < 2 ^ (k + 1)) : i.natAbs.log2 ≤ k := by
  by_cases h0 : i.natAbs = 0
  · rw [h0, Nat.log2_zero]; exact Nat.zero_le _
  · exact Nat.le_of_lt_succ ((Nat.log2_lt h0).mpr h)
theorem Bt.log {i : Int} {k : Nat} (h : Bt k i) : i.natAbs.log2 ≤ k := log_le (Nat.lt_of_lt_of_le h (Nat.pow_le_pow_right (by decide) (Nat.le_succ k)))
theorem Bt.mono {i : Int} {k l : Nat} (h : Bt k i) (hl : k ≤ l) : Bt l i := Nat.lt_of_lt_of_le h (Nat.pow_le_pow_right (by decide) hl)
theorem Bt.mul {i j : Int} {k l : Nat} (h : Bt k i) (g : Bt l j) : Bt (k + l) (i * j) := by
  unfold Bt at *
  rw [Int.natAbs_mul, Nat.pow_add]
  exact Nat.mul_lt_mul'' h g
theorem Bt.add {i j : Int} {k : Nat} (h : Bt k i) (g : Bt k j) : Bt (k + 1) (i + j) := by
  unfold Bt at *
  have := Int.natAbs_add_le i j
  rw [Nat.pow_succ]
  omega
theorem Bt.sub {i j : Int} {k : Nat} (h : Bt k i) (g : Bt k j) : Bt (k + 1) (i - j) := by
  unfold Bt at *
  rw [Nat.pow_succ]
  omega
theorem Bt.le {i : Int} {k : Nat} (h1 : -(2 ^ k) < i) (h2 : i < 2 ^ k) : Bt k i := by
  unfold Bt
  have e : ((2 : Nat) ^ k : Nat) = ((2 : Int) ^ k).toNat := by
    have : (2 : Int) ^ k = ((2 ^ k : Nat) : Int) := by simp
    rw [this]; rfl
  omega
theorem uMul_bt {i j : Int} {k l : Nat} (h : Bt k i) (g : Bt l j) (hk : k + l < 1000000) : uMul (.int i) (.int j) = some (.int (i * j)) := by
  show (if i.natAbs.log2 + j.natAbs.log2 < 1000000 then some (U.int (i * j)) else none) = _
  rw [if_pos (by have := h.log; have := g.log; omega)]
/-! ## parts without a common one -/
def gg (t l : Int) : Int := (Nat.gcd t.natAbs l.natAbs : Nat)
def nn (t l : Int) : Int := if l < 0 then -(t / gg t l) else t / gg t l
def dd (t l : Int) : Int := if l < 0 then -(l / gg t l) else l / gg t l
theorem gg_pos {t l : Int} (h : l ≠ 0) : 0 < gg t l := by
  have : 0 < Nat.gcd t.natAbs l.natAbs := Nat.gcd_pos_of_pos_right _ (Int.natAbs_pos.mpr h)
  unfold gg
  omega
theorem gg_t (t l : Int) : gg t l * (t / gg t l) = t := Int.mul_ediv_cancel' (Int.gcd_dvd_left (a := t) (b := l))
theorem gg_l (t l : Int) : gg t l * (l / gg t l) = l := Int.mul_ediv_cancel' (Int.gcd_dvd_right (a := t) (b := l))
theorem gg_le {t l : Int} (h : l ≠ 0) : gg t l ≤ l.natAbs := by
  have : Nat.gcd t.natAbs l.natAbs ≤ l.natAbs := Nat.gcd_le_right _ (Int.natAbs_pos.mpr h)
  unfold gg
  omega
theorem fdiv_of {g a x : Int} (h : g ≠ 0) (e : x = g * a) : x.fdiv g = a := by
  rw [e, Int.mul_fdiv_cancel_left _ h]
theorem log_gg {t l : Int} (h : l ≠ 0) (hl : l.natAbs < 2 ^ 8000) : (gg t l).natAbs.log2 < 9000 := by
  have h1 := gg_le (t := t) h
  have h2 := gg_pos (t := t) h
  have h3 : (gg t l).natAbs ≤ l.natAbs := by omega
  exact Nat.lt_of_le_of_lt (log_le (k := 7999) (Nat.lt_of_le_of_lt h3 hl)) (by decide)
theorem nn_one (t : Int) : nn t 1 = t := by
  unfold nn gg
  simp
theorem dd_one (t : Int) : dd t 1 = 1 := by
  unfold dd gg
  simp
theorem nn_neg {t l : Int} (h : l ≠ 0) : nn (-t) (-l) = nn t l := by
  have e : gg (-t) (-l) = gg t l := by unfold gg; rw [Int.natAbs_neg, Int.natAbs_neg]
  have d1 : gg t l ∣ t := ⟨_, (gg_t t l).symm⟩
  unfold nn
  rw [e, Int.neg_ediv_of_dvd d1]
  by_cases q : l < 0
  · rw [if_pos q, if_neg (by omega)]
  · rw [if_neg q, if_pos (by omega), Int.neg_neg]
theorem dd_neg {t l : Int} (h : l ≠ 0) : dd (-t) (-l) = dd t l := by
  have e : gg (-t) (-l) = gg t l := by unfold gg; rw [Int.natAbs_neg, Int.natAbs_neg]
  have d1 : gg t l ∣ l := ⟨_, (gg_l t l).symm⟩
  unfold dd
  rw [e, Int.neg_ediv_of_dvd d1]
  by_cases q : l < 0
  · rw [if_pos q, if_neg (by omega)]
  · rw [if_neg q, if_pos (by omega), Int.neg_neg]
theorem abs_div {g x : Int} (h : 0 < g) : (x / g).natAbs ≤ x.natAbs := by
  have := Int.natAbs_ediv_le_natAbs x g
  exact this
theorem nn_le {t l : Int} (h : l ≠ 0) : (nn t l).natAbs ≤ t.natAbs := by
  have := abs_div (x := t) (gg_pos (t := t) h)
  unfold nn
  split
  · rw [Int.natAbs_neg]; exact this
  · exact this
theorem dd_le {t l : Int} (h : l ≠ 0) : (dd t l).natAbs ≤ l.natAbs := by
  have := abs_div (x := l) (gg_pos (t := t) h)
  unfold dd
  split
  · rw [Int.natAbs_neg]; exact this
  · exact this
theorem dd_pos {t l : Int} (h : l ≠ 0) : 1 ≤ dd t l := by
  have h1 := gg_pos (t := t) h
  have h2 := gg_l t l
  unfold dd
  split
  · have : l / gg t l < 0 := by
      apply Int.not_le.mp
      intro q
      have := Int.mul_nonneg (Int.le_of_lt h1) q
      omega
    omega
  · have : 0 < l / gg t l := by
      apply Int.not_le.mp
      intro q
      have := Int.mul_nonpos_of_nonneg_of_nonpos (Int.le_of_lt h1) q
      omega
    omega
theorem gg_nf {t l : Int} (h : l ≠ 0) : gg (nn t l) (dd t l) = 1 := by
  have hp : 0 < Int.gcd t l := Int.gcd_pos_of_ne_zero_right _ h
  have e : Int.gcd (t / gg t l) (l / gg t l) = 1 := Int.gcd_ediv_gcd_ediv_gcd hp
  unfold nn dd
  split
  · have e2 : Int.gcd (-(t / gg t l)) (-(l / gg t l)) = 1 := by rw [Int.gcd_neg, Int.neg_gcd, e]
    show ((Int.gcd (-(t / gg t l)) (-(l / gg t l)) : Nat) : Int) = 1
    rw [e2]
    rfl
  · show ((Int.gcd (t / gg t l) (l / gg t l) : Nat) : Int) = 1
    rw [e]
    rfl
theorem cross {t l : Int} (h : l ≠ 0) : nn t l * l = t * dd t l := by
  have h1 := gg_t t l
  have h2 := gg_l t l
  unfold nn dd
  generalize t / gg t l = x at *
  generalize l / gg t l = y at *
  generalize gg t l = g at *
  have h3 : x * l = t * y := by rw [← h1, ← h2, Int.mul_left_comm, Int.mul_assoc]
  split
  · rw [Int.neg_mul, Int.mul_neg, h3]
  · exact h3
theorem uniq {X Y a b : Int} (hY : Y ≠ 0) (hb : 1 ≤ b) (hg : gg a b = 1) (h : X * b = a * Y) : nn X Y = a ∧ dd X Y = b := by
  have h1 := cross (t := X) hY
  have h2 := dd_pos (t := X) hY
  have h3 := gg_nf (t := X) hY
  generalize nn X Y = n at *
  generalize dd X Y = e at *
  have h4 : n * b = a * e := by
    have q : Y * (n * b) = Y * (a * e) := by
      calc Y * (n * b) = n * Y * b := by rw [Int.mul_comm n Y, Int.mul_assoc]
        _ = X * e * b := by rw [h1]
        _ = X * b * e := by rw [Int.mul_assoc, Int.mul_comm e, ← Int.mul_assoc]
        _ = a * Y * e := by rw [h]
        _ = Y * (a * e) := by rw [Int.mul_comm a Y, Int.mul_assoc]
    exact Int.eq_of_mul_eq_mul_left hY q
  have h5 : n.natAbs * b.natAbs = a.natAbs * e.natAbs := by rw [← Int.natAbs_mul, ← Int.natAbs_mul, h4]
  have g1 : Nat.Coprime a.natAbs b.natAbs := by unfold gg at hg; exact Int.ofNat.inj hg
  have g2 : Nat.Coprime n.natAbs e.natAbs := by unfold gg at h3; exact Int.ofNat.inj h3
  have d1 : b.natAbs ∣ e.natAbs := Nat.Coprime.dvd_of_dvd_mul_left g1.symm ⟨n.natAbs, by rw [← h5, Nat.mul_comm]⟩
  have d2 : e.natAbs ∣ b.natAbs := Nat.Coprime.dvd_of_dvd_mul_left g2.symm ⟨a.natAbs, by rw [h5, Nat.mul_comm]⟩
  have e1 := Nat.dvd_antisymm d1 d2
  have e2 : e = b := by omega
  subst e2
  exact ⟨Int.eq_of_mul_eq_mul_right (by omega) h4, rfl⟩
/-- the number N / u, as a fraction -/
def fr (N u : Int) : U := .tup [.int (nn N u), .int (dd N u)]
theorem fr_eq {N u M v : Int} (hu : u ≠ 0) (hv : v ≠ 0) (h : N * v = M * u) : fr N u = fr M v := by
  have c := cross (t := M) hv
  obtain ⟨h1, h2⟩ := uniq (X := N) (Y := u) (a := nn M v) (b := dd M v) hu (dd_pos hv) (gg_nf hv) (by
    have q : v * (N * dd M v) = v * (nn M v * u) := by
      calc v * (N * dd M v) = N * v * dd M v := by rw [← Int.mul_assoc, Int.mul_comm v N]
        _ = M * u * dd M v := by rw [h]
        _ = M * dd M v * u := by rw [Int.mul_assoc, Int.mul_comm u, ← Int.mul_assoc]
        _ = nn M v * v * u := by rw [c]
        _ = v * (nn M v * u) := by rw [Int.mul_comm (nn M v) v, Int.mul_assoc]
    exact Int.eq_of_mul_eq_mul_left hv q)
  unfold fr
  rw [h1, h2]
theorem fr_one (n : Int) : fr n 1 = .tup [.int n, .int 1] := by unfold fr; rw [nn_one, dd_one]
theorem nn_bt {k : Nat} {N u : Int} (h : u ≠ 0) (b : Bt k N) : Bt k (nn N u) := Nat.lt_of_le_of_lt (nn_le h) b
theorem dd_bt {k : Nat} {N u : Int} (h : u ≠ 0) (b : Bt k u) : Bt k (dd N u) := Nat.lt_of_le_of_lt (dd_le h) b
/-- sums, differences, products of fractions, by their numbers -/
theorem fr_add {N u M v : Int} (hu : u ≠ 0) (hv : v ≠ 0) : fr (nn N u * dd M v + nn M v * dd N u) (dd N u * dd M v) = fr (N * v + M * u) (u * v) := by
  have c1 := cross (t := N) hu
  have c2 := cross (t := M) hv
  have p1 := dd_pos (t := N) hu
  have p2 := dd_pos (t := M) hv
  generalize nn N u = n at *
  generalize dd N u = d at *
  generalize nn M v = m at *
  generalize dd M v = e at *
  refine fr_eq (Int.mul_ne_zero (by omega) (by omega)) (Int.mul_ne_zero hu hv) ?_
  rw [Int.add_mul, Int.add_mul]
  have a1 : n * e * (u * v) = N * v * (d * e) := by
    calc n * e * (u * v) = (n * u) * (e * v) := by ac_rfl
      _ = (N * d) * (e * v) := by rw [c1]
      _ = N * v * (d * e) := by ac_rfl
  have a2 : m * d * (u * v) = M * u * (d * e) := by
    calc m * d * (u * v) = (m * v) * (d * u) := by ac_rfl
      _ = (M * e) * (d * u) := by rw [c2]
      _ = M * u * (d * e) := by ac_rfl
  rw [a1, a2]
theorem fr_sub {N u M v : Int} (hu : u ≠ 0) (hv : v ≠ 0) : fr (nn N u * dd M v - nn M v * dd N u) (dd N u * dd M v) = fr (N * v - M * u) (u * v) := by
  have c1 := cross (t := N) hu
  have c2 := cross (t := M) hv
  have p1 := dd_pos (t := N) hu
  have p2 := dd_pos (t := M) hv
  generalize nn N u = n at *
  generalize dd N u = d at *
  generalize nn M v = m at *
  generalize dd M v = e at *
  refine fr_eq (Int.mul_ne_zero (by omega) (by omega)) (Int.mul_ne_zero hu hv) ?_
  rw [Int.sub_mul, Int.sub_mul]
  have a1 : n * e * (u * v) = N * v * (d * e) := by
    calc n * e * (u * v) = (n * u) * (e * v) := by ac_rfl
      _ = (N * d) * (e * v) := by rw [c1]
      _ = N * v * (d * e) := by ac_rfl
  have a2 : m * d * (u * v) = M * u * (d * e) := by
    calc m * d * (u * v) = (m * v) * (d * u) := by ac_rfl
      _ = (M * e) * (d * u) := by rw [c2]
      _ = M * u * (d * e) := by ac_rfl
  rw [a1, a2]
theorem fr_mul {N u M v : Int} (hu : u ≠ 0) (hv : v ≠ 0) : fr (nn N u * nn M v) (dd N u * dd M v) = fr (N * M) (u * v) := by
  have c1 := cross (t := N) hu
  have c2 := cross (t := M) hv
  have p1 := dd_pos (t := N) hu
  have p2 := dd_pos (t := M) hv
  generalize nn N u = n at *
  generalize dd N u = d at *
  generalize nn M v = m at *
  generalize dd M v = e at *
  refine fr_eq (Int.mul_ne_zero (by omega) (by omega)) (Int.mul_ne_zero hu hv) ?_
  calc n * m * (u * v) = (n * u) * (m * v) := by ac_rfl
    _ = (N * d) * (M * e) := by rw [c1, c2]
    _ = N * M * (d * e) := by ac_rfl
theorem fr_lt {N u M v : Int} (hu : 1 ≤ u) (hv : 1 ≤ v) : (nn N u * dd M v < nn M v * dd N u) ↔ N * v < M * u := by
  have hu' : u ≠ 0 := by omega
  have hv' : v ≠ 0 := by omega
  have c1 := cross (t := N) hu'
  have c2 := cross (t := M) hv'
  have p1 := dd_pos (t := N) hu'
  have p2 := dd_pos (t := M) hv'
  generalize nn N u = n at *
  generalize dd N u = d at *
  generalize nn M v = m at *
  generalize dd M v = e at *
  have a1 : (u * v) * (n * e) = (d * e) * (N * v) := by
    calc (u * v) * (n * e) = (n * u) * (e * v) := by ac_rfl
      _ = (N * d) * (e * v) := by rw [c1]
      _ = (d * e) * (N * v) := by ac_rfl
  have a2 : (u * v) * (m * d) = (d * e) * (M * u) := by
    calc (u * v) * (m * d) = (m * v) * (d * u) := by ac_rfl
      _ = (M * e) * (d * u) := by rw [c2]
      _ = (d * e) * (M * u) := by ac_rfl
  have q1 : 0 < u * v := Int.mul_pos (by omega) (by omega)
  have q2 : 0 < d * e := Int.mul_pos (by omega) (by omega)
  constructor
  · intro h
    have := Int.mul_lt_mul_of_pos_left h q1
    rw [a1, a2] at this
    exact Int.lt_of_mul_lt_mul_left this (Int.le_of_lt q2)
  · intro h
    have := Int.mul_lt_mul_of_pos_left h q2
    rw [← a1, ← a2] at this
    exact Int.lt_of_mul_lt_mul_left this (Int.le_of_lt q1)
/-! ## steps -/
theorem eqI {i j : Int} : uEq (.int i) (.int j) = some (.bl (i == j)) := by
  simp [uEq, uEqD, toPU, SeqAt.shaped, PyData.canLay0, PyData.depth, PyData.eqv]
theorem neI {i j : Int} : uNe (.int i) (.int j) = some (.bl (!(i == j))) := by
  simp [uNe, uNeD, toPU, SeqAt.shaped, PyData.canLay0, PyData.depth, PyData.eqv]
theorem eqS {x y : Str} : uEq (.str x) (.str y) = some (.bl (x == y)) := rfl
theorem neS {x y : Str} : uNe (.str x) (.str y) = some (.bl (!(x == y))) := rfl
end Z
namespace Z
open PySem PySem.Spec PyProof.Rows L2
/-! ## words -/
theorem w_work_work : (("work" : Str) == "work") = true := by decide +kernel
theorem w_work_rest : (("work" : Str) == "rest") = false := by decide +kernel
theorem w_work_after : (("work" : Str) == "after") = false := by decide +kernel
theorem w_work_last : (("work" : Str) == "last") = false := by decide +kernel
theorem w_work_first : (("work" : Str) == "first") = false := by decide +kernel
theorem w_work_not_before : (("work" : Str) == "not_before") = false := by decide +kernel
theorem w_work_given_up : (("work" : Str) == "given_up") = false := by decide +kernel
theorem w_rest_work : (("rest" : Str) == "work") = false := by decide +kernel
theorem w_rest_rest : (("rest" : Str) == "rest") = true := by decide +kernel
theorem w_rest_after : (("rest" : Str) == "after") = false := by decide +kernel
theorem w_rest_last : (("rest" : Str) == "last") = false := by decide +kernel
theorem w_rest_first : (("rest" : Str) == "first") = false := by decide +kernel
theorem w_rest_not_before : (("rest" : Str) == "not_before") = false := by decide +kernel
theorem w_rest_given_up : (("rest" : Str) == "given_up") = false := by decide +kernel
theorem w_after_work : (("after" : Str) == "work") = false := by decide +kernel
theorem w_after_rest : (("after" : Str) == "rest") = false := by decide +kernel
theorem w_after_after : (("after" : Str) == "after") = true := by decide +kernel
theorem w_after_last : (("after" : Str) == "last") = false := by decide +kernel
theorem w_after_first : (("after" : Str) == "first") = false := by decide +kernel
theorem w_after_not_before : (("after" : Str) == "not_before") = false := by decide +kernel
theorem w_after_given_up : (("after" : Str) == "given_up") = false := by decide +kernel
theorem w_last_work : (("last" : Str) == "work") = false := by decide +kernel
theorem w_last_rest : (("last" : Str) == "rest") = false := by decide +kernel
theorem w_last_after : (("last" : Str) == "after") = false := by decide +kernel
theorem w_last_last : (("last" : Str) == "last") = true := by decide +kernel
theorem w_last_first : (("last" : Str) == "first") = false := by decide +kernel
theorem w_last_not_before : (("last" : Str) == "not_before") = false := by decide +kernel
theorem w_last_given_up : (("last" : Str) == "given_up") = false := by decide +kernel
theorem w_first_work : (("first" : Str) == "work") = false := by decide +kernel
theorem w_first_rest : (("first" : Str) == "rest") = false := by decide +kernel
theorem w_first_after : (("first" : Str) == "after") = false := by decide +kernel
theorem w_first_last : (("first" : Str) == "last") = false := by decide +kernel
theorem w_first_first : (("first" : Str) == "first") = true := by decide +kernel
theorem w_first_not_before : (("first" : Str) == "not_before") = false := by decide +kernel
theorem w_first_given_up : (("first" : Str) == "given_up") = false := by decide +kernel
theorem w_not_before_work : (("not_before" : Str) == "work") = false := by decide +kernel
theorem w_not_before_rest : (("not_before" : Str) == "rest") = false := by decide +kernel
theorem w_not_before_after : (("not_before" : Str) == "after") = false := by decide +kernel
theorem w_not_before_last : (("not_before" : Str) == "last") = false := by decide +kernel
theorem w_not_before_first : (("not_before" : Str) == "first") = false := by decide +kernel
theorem w_not_before_not_before : (("not_before" : Str) == "not_before") = true := by decide +kernel
theorem w_not_before_given_up : (("not_before" : Str) == "given_up") = false := by decide +kernel
theorem w_given_up_work : (("given_up" : Str) == "work") = false := by decide +kernel
theorem w_given_up_rest : (("given_up" : Str) == "rest") = false := by decide +kernel
theorem w_given_up_after : (("given_up" : Str) == "after") = false := by decide +kernel
theorem w_given_up_last : (("given_up" : Str) == "last") = false := by decide +kernel
theorem w_given_up_first : (("given_up" : Str) == "first") = false := by decide +kernel
theorem w_given_up_not_before : (("given_up" : Str) == "not_before") = false := by decide +kernel
theorem w_given_up_given_up : (("given_up" : Str) == "given_up") = true := by decide +kernel
theorem inS2 {a b c : Str} {r : Bool} (ha : PyData.strOk a = true) (hb : PyData.strOk b = true) (hc : PyData.strOk c = true) (h : ((b == a) || (c == a)) = r) : uInP false (.str a) (.tup [.str b, .str c]) = some (.bl r) := by
  subst h
  simp [uInP, toPU, optAll, SeqAt.shaped, PyData.canLay0, PyData.canLayAll0, PyData.depth, PyData.depthAll, PyData.eqv, ha, hb, hc]
theorem inS3 {a b c d : Str} {r : Bool} (ha : PyData.strOk a = true) (hb : PyData.strOk b = true) (hc : PyData.strOk c = true) (hd : PyData.strOk d = true) (h : ((b == a) || ((c == a) || (d == a))) = r) : uInP false (.str a) (.tup [.str b, .str c, .str d]) = some (.bl r) := by
  subst h
  simp [uInP, toPU, optAll, SeqAt.shaped, PyData.canLay0, PyData.canLayAll0, PyData.depth, PyData.depthAll, PyData.eqv, ha, hb, hc, hd]
theorem ih_work : uInP false (.str "work") (.tup [.str "not_before", .str "given_up"]) = some (.bl false) := inS2 (by decide +kernel) (by decide +kernel) (by decide +kernel) (by decide +kernel)
theorem ih_rest : uInP false (.str "rest") (.tup [.str "not_before", .str "given_up"]) = some (.bl false) := inS2 (by decide +kernel) (by decide +kernel) (by decide +kernel) (by decide +kernel)
theorem ih_after : uInP false (.str "after") (.tup [.str "not_before", .str "given_up"]) = some (.bl false) := inS2 (by decide +kernel) (by decide +kernel) (by decide +kernel) (by decide +kernel)
theorem ih_last : uInP false (.str "last") (.tup [.str "not_before", .str "given_up"]) = some (.bl false) := inS2 (by decide +kernel) (by decide +kernel) (by decide +kernel) (by decide +kernel)
theorem ih_first : uInP false (.str "first") (.tup [.str "not_before", .str "given_up"]) = some (.bl false) := inS2 (by decide +kernel) (by decide +kernel) (by decide +kernel) (by decide +kernel)
theorem ih_not_before : uInP false (.str "not_before") (.tup [.str "not_before", .str "given_up"]) = some (.bl true) := inS2 (by decide +kernel) (by decide +kernel) (by decide +kernel) (by decide +kernel)
theorem ih_given_up : uInP false (.str "given_up") (.tup [.str "not_before", .str "given_up"]) = some (.bl true) := inS2 (by decide +kernel) (by decide +kernel) (by decide +kernel) (by decide +kernel)
theorem im_work : uInP false (.str "work") (.tup [.str "after", .str "last", .str "first"]) = some (.bl false) := inS3 (by decide +kernel) (by decide +kernel) (by decide +kernel) (by decide +kernel) (by decide +kernel)
theorem im_rest : uInP false (.str "rest") (.tup [.str "after", .str "last", .str "first"]) = some (.bl false) := inS3 (by decide +kernel) (by decide +kernel) (by decide +kernel) (by decide +kernel) (by decide +kernel)
theorem im_after : uInP false (.str "after") (.tup [.str "after", .str "last", .str "first"]) = some (.bl true) := inS3 (by decide +kernel) (by decide +kernel) (by decide +kernel) (by decide +kernel) (by decide +kernel)
theorem im_last : uInP false (.str "last") (.tup [.str "after", .str "last", .str "first"]) = some (.bl true) := inS3 (by decide +kernel) (by decide +kernel) (by decide +kernel) (by decide +kernel) (by decide +kernel)
theorem im_first : uInP false (.str "first") (.tup [.str "after", .str "last", .str "first"]) = some (.bl true) := inS3 (by decide +kernel) (by decide +kernel) (by decide +kernel) (by decide +kernel) (by decide +kernel)
theorem im_not_before : uInP false (.str "not_before") (.tup [.str "after", .str "last", .str "first"]) = some (.bl false) := inS3 (by decide +kernel) (by decide +kernel) (by decide +kernel) (by decide +kernel) (by decide +kernel)
theorem im_given_up : uInP false (.str "given_up") (.tup [.str "after", .str "last", .str "first"]) = some (.bl false) := inS3 (by decide +kernel) (by decide +kernel) (by decide +kernel) (by decide +kernel) (by decide +kernel)
theorem il_work : uInP false (.str "work") (.tup [.str "last", .str "not_before"]) = some (.bl false) := inS2 (by decide +kernel) (by decide +kernel) (by decide +kernel) (by decide +kernel)
theorem il_rest : uInP false (.str "rest") (.tup [.str "last", .str "not_before"]) = some (.bl false) := inS2 (by decide +kernel) (by decide +kernel) (by decide +kernel) (by decide +kernel)
theorem il_after : uInP false (.str "after") (.tup [.str "last", .str "not_before"]) = some (.bl false) := inS2 (by decide +kernel) (by decide +kernel) (by decide +kernel) (by decide +kernel)
theorem il_last : uInP false (.str "last") (.tup [.str "last", .str "not_before"]) = some (.bl true) := inS2 (by decide +kernel) (by decide +kernel) (by decide +kernel) (by decide +kernel)
theorem il_first : uInP false (.str "first") (.tup [.str "last", .str "not_before"]) = some (.bl false) := inS2 (by decide +kernel) (by decide +kernel) (by decide +kernel) (by decide +kernel)
theorem il_not_before : uInP false (.str "not_before") (.tup [.str "last", .str "not_before"]) = some (.bl true) := inS2 (by decide +kernel) (by decide +kernel) (by decide +kernel) (by decide +kernel)
theorem il_given_up : uInP false (.str "given_up") (.tup [.str "last", .str "not_before"]) = some (.bl false) := inS2 (by decide +kernel) (by decide +kernel) (by decide +kernel) (by decide +kernel)
/-! ## nets -/
inductive Wd where | after | last | first
  deriving DecidableEq
def Wd.s : Wd → Str
  | .after => "after"
  | .last => "last"
  | .first => "first"
inductive Nt where
  | work (i : Nat) | rest (n : Int) | join (w : Wd) (ps : List Nt) | hr (b : Bool) (n : Int) (p : Nt)
def hw (b : Bool) : Str := if b then "not_before" else "given_up"
mutual
def Nt.u : Nt → U
  | .work i => .tup [.str "work", .int i]
  | .rest n => .tup [.str "rest", .int n]
  | .join w ps => .tup (.str w.s :: Nt.us ps)
  | .hr b n p => .tup [.str (hw b), .int n, p.u]
def Nt.us : List Nt → List U
  | [] => []
  | p :: ps => p.u :: Nt.us ps
end
mutual
/-- of so many works, its numbers of so many bits, each join with a part -/
def Nt.ok (m k : Nat) : Nt → Prop
  | .work i => i < m
  | .rest n => 0 ≤ n ∧ Bt k n
  | .join _ ps => ps ≠ [] ∧ ps.length ≤ 4 ∧ Nt.oks m k ps
  | .hr _ n p => 0 ≤ n ∧ Bt k n ∧ p.ok m k
def Nt.oks (m k : Nat) : List Nt → Prop
  | [] => True
  | p :: ps => p.ok m k ∧ Nt.oks m k ps
end
mutual
def Nt.dep : Nt → Nat
  | .work _ => 0
  | .rest _ => 0
  | .join _ ps => Nt.deps ps + 1
  | .hr _ _ p => p.dep + 1
def Nt.deps : List Nt → Nat
  | [] => 0
  | p :: ps => max p.dep (Nt.deps ps)
end
mutual
def Nt.leaves : Nt → Nat
  | .work _ => 1
  | .rest _ => 1
  | .join _ ps => Nt.lvs ps
  | .hr _ _ p => p.leaves + 1
def Nt.lvs : List Nt → Nat
  | [] => 0
  | p :: ps => p.leaves + Nt.lvs ps
end
theorem Nt.us_map : ∀ ps : List Nt, Nt.us ps = ps.map Nt.u
  | [] => rfl
  | p :: ps => by simp [Nt.us, Nt.us_map ps]
theorem Nt.oks_iff {m k : Nat} : ∀ {ps : List Nt}, Nt.oks m k ps ↔ ∀ p, p ∈ ps → p.ok m k
  | [] => by simp [Nt.oks]
  | p :: ps => by simp [Nt.oks, Nt.oks_iff (ps := ps)]
theorem Nt.deps_le {ps : List Nt} {p : Nt} (h : p ∈ ps) : p.dep ≤ Nt.deps ps := by
  induction ps with
  | nil => cases h
  | cons q qs ih =>
    unfold Nt.deps
    rcases List.mem_cons.mp h with z | z
    · subst z; exact Nat.le_max_left _ _
    · exact Nat.le_trans (ih z) (Nat.le_max_right _ _)
mutual
/-- the hour, all in parts of one of which u are 1 -/
def Nt.hour (ns : List Int) (u : Int) : Nt → Int
  | .work i => ns.getD i 0
  | .rest n => n * u
  | .join .after ps => (Nt.hours ns u ps).sum
  | .join .last ps => maxI (Nt.hours ns u ps)
  | .join .first ps => minI (Nt.hours ns u ps)
  | .hr true n p => maxI [n * u, p.hour ns u]
  | .hr false n p => minI [n * u, p.hour ns u]
def Nt.hours (ns : List Int) (u : Int) : List Nt → List Int
  | [] => []
  | p :: ps => p.hour ns u :: Nt.hours ns u ps
end
theorem Nt.hours_map {ns : List Int} {u : Int} : ∀ ps : List Nt, Nt.hours ns u ps = ps.map (Nt.hour ns u)
  | [] => rfl
  | p :: ps => by simp [Nt.hours, Nt.hours_map ps]
/-- so far from 0 at the most -/
def Ab (B : Nat) (x : Int) : Prop := x.natAbs ≤ B
theorem maxI_in {l : List Int} (h : l ≠ []) : maxI l ∈ l := (maxI_mem (by cases l with | nil => exact absurd rfl h | cons => simp)).1
theorem minI_in {l : List Int} (h : l ≠ []) : minI l ∈ l := (minI_mem (by cases l with | nil => exact absurd rfl h | cons => simp)).1
theorem Nt.lvs_mem {ps : List Nt} {p : Nt} (h : p ∈ ps) : p.leaves ≤ Nt.lvs ps := by
  induction ps with
  | nil => cases h
  | cons q qs ih =>
    unfold Nt.lvs
    rcases List.mem_cons.mp h with z | z
    · subst z; omega
    · have := ih z; omega
mutual
theorem Nt.hour_ab {m k B : Nat} {ns : List Int} {u : Int} (hn : ∀ x, x ∈ ns → Ab B x) (hu : ∀ n : Int, 0 ≤ n → Bt k n → Ab B (n * u)) : ∀ t : Nt, t.ok m k → Ab (t.leaves * B) (t.hour ns u)
  | .work i, h => by
    simp only [Nt.hour, Nt.leaves, Nat.one_mul]
    rw [List.getD_eq_getElem?_getD]
    cases z : ns[i]? with
    | none => simp [Ab]
    | some x => exact hn x (List.mem_of_getElem? z)
  | .rest n, h => by
    simp only [Nt.hour, Nt.leaves, Nat.one_mul]
    exact hu n h.1 h.2
  | .join w ps, h => by
    have a := Nt.hours_ab hn hu ps h.2.2
    have ne : Nt.hours ns u ps ≠ [] := by rw [Nt.hours_map]; intro z; exact h.1 (List.map_eq_nil_iff.mp z)
    cases w with
    | after => exact a.2
    | last => exact a.1 _ (maxI_in ne)
    | first => exact a.1 _ (minI_in ne)
  | .hr b n p, h => by
    have a := Nt.hour_ab hn hu p h.2.2
    have c := hu n h.1 h.2.1
    have key : ∀ x, x ∈ [n * u, p.hour ns u] → Ab ((p.leaves + 1) * B) x := fun x hx => by
      simp at hx
      unfold Ab at *
      rw [Nat.add_mul]
      rcases hx with z | z <;> subst z <;> omega
    cases b with
    | true => exact key _ (maxI_in (by simp))
    | false => exact key _ (minI_in (by simp))
theorem Nt.hours_ab {m k B : Nat} {ns : List Int} {u : Int} (hn : ∀ x, x ∈ ns → Ab B x) (hu : ∀ n : Int, 0 ≤ n → Bt k n → Ab B (n * u)) : ∀ ps : List Nt, Nt.oks m k ps → (∀ x, x ∈ Nt.hours ns u ps → Ab (Nt.lvs ps * B) x) ∧ Ab (Nt.lvs ps * B) (Nt.hours ns u ps).sum
  | [], _ => ⟨fun x h => by simp [Nt.hours] at h, by simp [Nt.hours, Ab]⟩
  | p :: ps, h => by
    have a := Nt.hour_ab hn hu p h.1
    obtain ⟨b1, b2⟩ := Nt.hours_ab hn hu ps h.2
    simp only [Nt.hours, Nt.lvs, Nat.add_mul]
    refine ⟨fun x hx => ?_, ?_⟩
    · rcases List.mem_cons.mp hx with z | z
      · subst z; unfold Ab at *; omega
      · have := b1 x z; unfold Ab at *; omega
    · rw [List.sum_cons]
      unfold Ab at *
      have := Int.natAbs_add_le (p.hour ns u) (Nt.hours ns u ps).sum
      omega
end
theorem Nt.pre_ab {m k B : Nat} {ns : List Int} {u : Int} (hn : ∀ x, x ∈ ns → Ab B x) (hu : ∀ n : Int, 0 ≤ n → Bt k n → Ab B (n * u)) {ps : List Nt} (h : Nt.oks m k ps) {pre post : List Int} (e : Nt.hours ns u ps = pre ++ post) : Ab (Nt.lvs ps * B) pre.sum := by
  have e1 : pre = Nt.hours ns u (ps.take pre.length) := by
    rw [Nt.hours_map, List.map_take, ← Nt.hours_map, e, List.take_left]
  rw [e1]
  have ok : Nt.oks m k (ps.take pre.length) := Nt.oks_iff.mpr fun p hp => Nt.oks_iff.mp h p (List.mem_of_mem_take hp)
  have a := (Nt.hours_ab hn hu _ ok).2
  have l : Nt.lvs (ps.take pre.length) ≤ Nt.lvs ps := by
    generalize pre.length = n
    clear a ok e1 e h
    induction ps generalizing n with
    | nil => simp
    | cons q qs ih =>
      cases n with
      | zero => simp [Nt.lvs]
      | succ n => simp only [List.take_succ_cons, Nt.lvs]; have := ih n; omega
  exact Nat.le_trans a (Nat.mul_le_mul_right _ l)
theorem Ab.bt {B k : Nat} {x : Int} (h : Ab B x) (hB : B < 2 ^ k) : Bt k x := Nat.lt_of_le_of_lt h hB
/-! ## rows made one by one -/
theorem wipe1 {e : UV} {i : Nat} {x : Option U} (he : e.set i none = e) : wipeU (e.set i x) [i] = e := by
  simp [wipeU, he]
theorem lc_map {α : Type} {i : Nat} {el : UE} {e : UV} (g f : α → U) (he : e.set i none = e) : ∀ (xs : List α) (acc : List U), acc.length + xs.length < 100000 → (∀ x, x ∈ xs → el (e.set i (some (g x))) = .ok (f x) (e.set i (some (g x)))) → lcU (.nm i) uTrue el [i] (xs.map g) e acc = some (acc ++ xs.map f, e)
  | [], acc, _, _ => by simp [lcU]
  | x :: xs, acc, hl, h => by
    simp at hl
    have ih := lc_map (el := el) g f he xs (acc ++ [f x]) (by simp; omega) fun y hy => h y (List.mem_cons_of_mem _ hy)
    have hx := h x List.mem_cons_self
    have ha : acc.length < 100000 := by omega
    simp [lcU, Pat.putU, uTrue, hx, ha, wipe1 he, ih]
theorem ints_map : ∀ l : List Int, intsU (l.map U.int) = some l
  | [] => rfl
  | x :: l => by simp [intsU, ints_map l]
theorem take_len {α : Type} (l : List α) (n : Nat) (h : l.length ≤ n) : l.take n = l := List.take_of_length_le h
end Z
namespace Z
open PySem PySem.Spec PyProof.Rows L2
theorem rng_in {m : Nat} (hm : m < 2 ^ 40) : -(2 ^ 62) ≤ (m : Int) ∧ (m : Int) < 2 ^ 62 := by omega
theorem rng_if {e1 : UV} {m : Nat} (h : -(2 ^ 62) ≤ (m : Int) ∧ (m : Int) < 2 ^ 62) : (if -(2 ^ 62) ≤ (m : Int) ∧ (m : Int) < 2 ^ 62 then UQ.ok (rngU 0 (m : Int).toNat) e1 else .bad) = UQ.ok (rngU 0 m) e1 := by
  rw [if_pos h, Int.toNat_natCast]
theorem rng_un {q : UE} {e e1 : UV} {j : Int} (h : q e = .ok (.int j) e1) : uRng q e = (if -(2 ^ 62) ≤ j ∧ j < 2 ^ 62 then UQ.ok (rngU 0 j.toNat) e1 else .bad) := by
  unfold uRng
  rw [h]
  rfl
/-- range(m), of a whole number that is not great -/
theorem rng_ok {q : UE} {e e1 : UV} {m : Nat} (h : q e = .ok (.int m) e1) (hm : m < 2 ^ 40) : uRng q e = .ok (rngU 0 m) e1 := (rng_un h).trans (rng_if (rng_in hm))
theorem lc_ok2 {it : UI} {p : Pat} {ws : List Nat} {t : UB} {el : UE} {e e1 e2 : UV} {us vs : List U} (h : it e = .ok us e1) (h2 : lcU p t el ws us (wipeU e1 ws) [] = some (vs, e2)) : uLc it p ws t el e = .ok (.lst vs) (restU e1 e2 ws) := by
  simp only [uLc, h, UQ.bind, h2]
theorem ok_eq {β : Type} {b : β} {e e' : UV} (h : e = e') : UQ.ok b e = UQ.ok b e' := by rw [h]
theorem run_set_ret {A B : UE} {L i : Nat} {us : List U} {e0 e1 e2 : UV} {x v : U} (he : us.map some ++ List.replicate (L - us.length) none = e0) (hA : A e0 = .ok x e1) (hB : B (e1.set i (some x)) = .ok v e2) : uRun L (uSeq (uSet i A) (uSeq (uReturn B) uNop)) us = .ok v e2 := by
  simp only [uRun, uSeq, uSet, he, hA, UQ.s, US.then, uReturn, hB]
theorem run_ret1 {B : UE} {L : Nat} {us : List U} {e0 e2 : UV} {v : U} (he : us.map some ++ List.replicate (L - us.length) none = e0) (hB : B e0 = .ok v e2) : uRun L (uSeq (uReturn B) uNop) us = .ok v e2 := by
  simp only [uRun, uSeq, he, UQ.s, US.then, uReturn, hB]
/-- a statement, then the others -/
theorem seq_nx {f g : UF} {e e1 : UV} {r : US} (h : f e = .nx e1) (h2 : g e1 = r) : uSeq f g e = r := by
  simp only [uSeq, h, US.then, h2]
theorem seq_rt {f g : UF} {e e1 : UV} {u : U} (h : f e = .ret u e1) : uSeq f g e = .ret u e1 := by
  simp only [uSeq, h, US.then]
theorem set_ok {f : UE} {i : Nat} {e e1 : UV} {u : U} (h : f e = .ok u e1) : uSet i f e = .nx (e1.set i (some u)) := by
  simp only [uSet, h, UQ.s]
theorem ret_ok {f : UE} {e e1 : UV} {u : U} (h : f e = .ok u e1) : uReturn f e = .ret u e1 := by
  simp only [uReturn, h, UQ.s]
theorem if_no {t : UB} {f g : UF} {e e1 : UV} {r : US} (h : t e = .ok false e1) (h2 : g e1 = r) : uIfS t f g e = r := by
  simp only [uIfS, h, UQ.s]
  exact h2
theorem if_yes {t : UB} {f g : UF} {e e1 : UV} {r : US} (h : t e = .ok true e1) (h2 : f e1 = r) : uIfS t f g e = r := by
  simp only [uIfS, h, UQ.s]
  exact h2
theorem par_vv {i j : Nat} {f g : UE} {e e1 e2 : UV} {a b : U} (h : f e = .ok a e1) (h2 : g e1 = .ok b e2) : uPar i j [.val f, .val g] e = .nx ((e2.set i (some a)).set j (some b)) := by
  simp only [uPar, uArgs, h, h2, UQ.bind, UQ.s]
theorem run_rt {b : UF} {L : Nat} {us : List U} {e0 e2 : UV} {v : U} (he : us.map some ++ List.replicate (L - us.length) none = e0) (h : b e0 = .ret v e2) : uRun L b us = .ok v e2 := by
  simp only [uRun, he, h]
/-- calls without lists of their own -/
theorem call1v {dfl : List U} {f : UE} {G : List U → UQ U} {e e1 r : UV} {a u : U} (h : f e = .ok a e1) (hG : G [a] = .ok u r) : uCall [0] dfl [.val f] [] G e = .ok u e1 := by
  have p : pick [0] ([a] ++ dfl) = [a] := rfl
  simp only [uCall, uArgs, h, UQ.bind, Z.fill, Arg.get, p, hG, wbk]
theorem call2v {dfl : List U} {f g : UE} {G : List U → UQ U} {e e1 e2 r : UV} {a b u : U} (h : f e = .ok a e1) (h2 : g e1 = .ok b e2) (hG : G [a, b] = .ok u r) : uCall [0, 1] dfl [.val f, .val g] [] G e = .ok u e2 := by
  have p : pick [0, 1] ([a, b] ++ dfl) = [a, b] := rfl
  simp only [uCall, uArgs, h, h2, UQ.bind, Z.fill, Arg.get, p, hG, wbk]
theorem call3v {f g k : UE} {G : List U → UQ U} {e e1 e2 e3 r : UV} {a b c u : U} {idx : List Nat} {us : List U} (h : f e = .ok a e1) (h2 : g e1 = .ok b e2) (h3 : k e2 = .ok c e3) (hp : pick idx [a, b, c] = us) (hG : G us = .ok u r) : uCall idx [] [.val f, .val g, .val k] [] G e = .ok u e3 := by
  simp only [uCall, uArgs, h, h2, h3, UQ.bind, Z.fill, Arg.get, List.append_nil, hp, hG, wbk]
/-- a call that draws: of the urn in slot 0 -/
theorem call_pot {G : List U → UQ U} {q : UE} {e e1 : UV} {x u p p0 p' : U} {r : UV} (h0 : (e[0]?).join = some p0) (hq : q e = .ok x e1) (h1 : (e1[0]?).join = some p) (hG : G [p, x] = .ok u (some p' :: r)) : uCall [0, 1] [] [.io 0, .val q] [(0, 0)] G e = .ok u (e1.set 0 (some p')) := by
  have pk : pick [0, 1] ([p, x] ++ []) = [p, x] := rfl
  simp only [uCall, uArgs, h0, hq, UQ.bind, Z.fill, Arg.get, h1, pk, hG, wbk]
  rfl
theorem call_pot3 {G : List U → UQ U} {q q2 : UE} {e e1 e2 : UV} {x y u p p0 p' : U} {r : UV} (h0 : (e[0]?).join = some p0) (hq : q e = .ok x e1) (hq2 : q2 e1 = .ok y e2) (h1 : (e2[0]?).join = some p) (hG : G [p, x, y] = .ok u (some p' :: r)) : uCall [0, 1, 2] [] [.io 0, .val q, .val q2] [(0, 0)] G e = .ok u (e2.set 0 (some p')) := by
  have pk : pick [0, 1, 2] ([p, x, y] ++ []) = [p, x, y] := rfl
  simp only [uCall, uArgs, h0, hq, hq2, UQ.bind, Z.fill, Arg.get, h1, pk, hG, wbk]
  rfl
theorem un_ok {h : U → Option U} {f : UE} {e e1 : UV} {a r : U} (hf : f e = .ok a e1) (hh : h a = some r) : uUn h (.now f) e = .ok r e1 := by
  simp only [uUn, Opd.run, hf, UQ.bind, Opd.get, hh, uRet]
theorem bin_ok {h : U → U → Option U} {f g : UE} {e e1 e2 : UV} {a b r : U} (hf : f e = .ok a e1) (hg : g e1 = .ok b e2) (hh : h a b = some r) : uBin h (.now f) (.now g) e = .ok r e2 := by
  simp only [uBin, Opd.run, hf, hg, UQ.bind, Opd.get, hh, uRet]
theorem cmp_ok {h : U → U → Option U} {f g : UE} {e e1 e2 : UV} {a b : U} {r : Bool} (hf : f e = .ok a e1) (hg : g e1 = .ok b e2) (hh : h a b = some (.bl r)) : uCmp h (.now f) (.now g) e = .ok r e2 := by
  simp only [uCmp, Opd.run, hf, hg, UQ.bind, Opd.get, hh, uRet, uBool]
theorem or_no {p q : UB} {e e1 : UV} {r : UQ Bool} (h : p e = .ok false e1) (h2 : q e1 = r) : uOrB p q e = r := by
  simp only [uOrB, h, UQ.bind]
  exact h2
theorem cons_ok {f : UE} {l : UL} {e e1 e2 : UV} {u : U} {us : List U} (h : f e = .ok u e1) (h2 : l e1 = .ok us e2) : uCons f l e = .ok (u :: us) e2 := by
  simp only [uCons, h, h2, UQ.bind]
theorem nil_ok2 {e : UV} : uNil e = .ok [] e := rfl
theorem tup_ok {l : UL} {e e1 : UV} {us : List U} (h : l e = .ok us e1) (hl : us.length ≤ 1000) : uTup l e = .ok (.tup us) e1 := by
  simp only [uTup, h, UQ.bind]
  rw [if_pos hl]
theorem lst_ok {l : UL} {e e1 : UV} {us : List U} (h : l e = .ok us e1) (hl : us.length ≤ 1000) : uLst l e = .ok (.lst us) e1 := by
  simp only [uLst, h, UQ.bind]
  rw [if_pos hl]
theorem zipU_map {α : Type} (g1 g2 : α → U) : ∀ ps : List α, zipU (ps.map g1) (ps.map g2) = ps.map fun p => .tup [g1 p, g2 p]
  | [] => rfl
  | p :: ps => by
    have := zipU_map g1 g2 ps
    simp only [zipU, List.map_cons, List.zip_cons_cons] at this ⊢
    rw [this]
theorem lc_pair {α : Type} {i j : Nat} {el : UE} {e : UV} (g1 g2 f : α → U) (he : ∀ x y, wipeU ((e.set i (some x)).set j (some y)) [i, j] = e) : ∀ (xs : List α) (acc : List U), acc.length + xs.length < 100000 → (∀ x, x ∈ xs → el ((e.set i (some (g1 x))).set j (some (g2 x))) = .ok (f x) ((e.set i (some (g1 x))).set j (some (g2 x)))) →
    lcU (.tp [.nm i, .nm j]) uTrue el [i, j] (xs.map fun x => .tup [g1 x, g2 x]) e acc = some (acc ++ xs.map f, e)
  | [], acc, _, _ => by simp [lcU]
  | x :: xs, acc, hl, h => by
    simp only [List.length_cons] at hl
    have hl2 : (acc ++ [f x]).length + xs.length < 100000 := by rw [List.length_append, List.length_cons, List.length_nil]; omega
    have ih := lc_pair (el := el) g1 g2 f he xs (acc ++ [f x]) hl2 fun y hy => h y (List.mem_cons_of_mem _ hy)
    have hx := h x List.mem_cons_self
    have ha : acc.length < 100000 := by omega
    simp only [List.map_cons, lcU, Pat.putU, Pat.putsU, List.length_cons, List.length_nil, if_true, uTrue, hx, he, ih, List.append_assoc, List.cons_append, List.nil_append]
    rw [if_pos ha]
theorem zp_tup {f g : UE} {e e1 e2 : UV} {xs ys : List U} (h1 : f e = .ok (.tup xs) e1) (h2 : g e1 = .ok (.tup ys) e2) : uZp f g e = .ok (zipU xs ys) e2 := by
  simp only [uZp, h1, h2, UQ.bind, itZipU, uRet]
theorem zp_lst {f g : UE} {e e1 e2 : UV} {xs ys : List U} (h1 : f e = .ok (.lst xs) e1) (h2 : g e1 = .ok (.lst ys) e2) : uZp f g e = .ok (zipU xs ys) e2 := by
  simp only [uZp, h1, h2, UQ.bind, itZipU, uRet]
theorem sq_lst {f : UE} {e e1 : UV} {xs : List U} (h1 : f e = .ok (.lst xs) e1) : uSq f e = .ok xs e1 := by
  simp only [uSq, h1, UQ.bind, uItems, uRet]
theorem sq_tup {f : UE} {e e1 : UV} {xs : List U} (h1 : f e = .ok (.tup xs) e1) : uSq f e = .ok xs e1 := by
  simp only [uSq, h1, UQ.bind, uItems, uRet]
theorem tuple_lst {xs : List U} : uTuple (.lst xs) = some (.tup xs) := rfl
theorem put_tp2 {f : UE} {i j : Nat} {e e1 : UV} {a b : U} (h : f e = .ok (.tup [a, b]) e1) : uPut (.tp [.nm i, .nm j]) f e = .nx ((e1.set i (some a)).set j (some b)) := by
  simp only [uPut, h, UQ.s, Pat.putU, Pat.putsU, List.length_cons, List.length_nil, if_true]
end Z
namespace P
open PySem PySem.Spec PyProof.Rows L2 Z
/-! ## things, and how many joins they have, when they are nets -/
def hW (w : Str) : Bool := ("not_before" : Str) == w || ("given_up" : Str) == w
def mW (w : Str) : Bool := ("after" : Str) == w || (("last" : Str) == w || ("first" : Str) == w)
/-- the five kinds of words -/
structure Kd (w : Str) (a r h m : Bool) : Prop where
  a : (w == ("work" : Str)) = a
  r : (w == ("rest" : Str)) = r
  h : hW w = h
  m : mW w = m
theorem kinds (w : Str) : Kd w true false false false ∨ Kd w false true false false ∨ Kd w false false true false ∨ Kd w false false false true ∨ Kd w false false false false := by
  by_cases h1 : w = "work"
  · subst h1; exact .inl ⟨by decide +kernel, by decide +kernel, by decide +kernel, by decide +kernel⟩
  by_cases h2 : w = "rest"
  · subst h2; exact .inr (.inl ⟨by decide +kernel, by decide +kernel, by decide +kernel, by decide +kernel⟩)
  by_cases h3 : hW w = true
  · have : w = "not_before" ∨ w = "given_up" := by
      unfold hW at h3
      rw [Bool.or_eq_true, beq_iff_eq, beq_iff_eq] at h3
      exact h3.imp Eq.symm Eq.symm
    rcases this with z | z <;> subst z <;> exact .inr (.inr (.inl ⟨by decide +kernel, by decide +kernel, by decide +kernel, by decide +kernel⟩))
  have e1 : (w == ("work" : Str)) = false := by rw [beq_eq_false_iff_ne]; exact h1
  have e2 : (w == ("rest" : Str)) = false := by rw [beq_eq_false_iff_ne]; exact h2
  have e3 : hW w = false := by simpa using h3
  by_cases h4 : mW w = true
  · exact .inr (.inr (.inr (.inl ⟨e1, e2, e3, h4⟩)))
  · exact .inr (.inr (.inr (.inr ⟨e1, e2, e3, by simpa using h4⟩)))
def whl : U → Bool
  | .int i => decide (0 ≤ i)
  | _ => false
def bel (k : Int) : U → Bool
  | .int i => decide (i < k)
  | _ => false
def comb (k : Int) (w : Str) (a : U) (l : Nat) (ja s : Option Nat) : Option Nat :=
  if w == "work" then (if l = 0 ∧ whl a = true ∧ bel k a = true then some 0 else none)
  else if w == "rest" then (if l = 0 ∧ whl a = true then some 0 else none)
  else if hW w then (if l = 1 ∧ whl a = true then s.map (1 + ·) else none)
  else if mW w = true ∧ 1 ≤ l ∧ l ≤ 3 then (match ja, s with | some x, some y => some (1 + (x + y)) | _, _ => none)
  else none
mutual
def jn (k : Int) : U → Option Nat
  | .tup xs => jt k xs
  | _ => none
def jt (k : Int) : List U → Option Nat
  | .str w :: a :: ps => comb k w a ps.length (jn k a) (jns k ps)
  | _ => none
def jns (k : Int) : List U → Option Nat
  | [] => some 0
  | x :: xs => match jn k x, jns k xs with
    | some a, some b => some (a + b)
    | _, _ => none
end
mutual
def wd : U → Prop
  | .tup xs => wds xs
  | .lst xs => wds xs
  | .str w => PyData.strOk w = true
  | .int i => i.natAbs < 2 ^ 60
  | .fl _ => False
  | .exc _ _ => False
  | _ => True
def wds : List U → Prop
  | [] => True
  | x :: xs => wd x ∧ wds xs
end
/-- the head of a net is right -/
def bg (k : Int) : U → Bool
  | .tup (.str w :: a :: ps) => if w == "work" then decide (ps.length = 0) && (whl a && bel k a) else if w == "rest" then decide (ps.length = 0) && whl a else if hW w then decide (ps.length = 1) else mW w && (decide (1 ≤ ps.length) && decide (ps.length ≤ 3))
  | _ => false
theorem strOk_work : PyData.strOk "not_before" = true := by decide +kernel
theorem strOk_given : PyData.strOk "given_up" = true := by decide +kernel
theorem strOk_after : PyData.strOk "after" = true := by decide +kernel
theorem strOk_last : PyData.strOk "last" = true := by decide +kernel
theorem strOk_first : PyData.strOk "first" = true := by decide +kernel
theorem strOk_wk : PyData.strOk "work" = true := by decide +kernel
theorem strOk_rest : PyData.strOk "rest" = true := by decide +kernel
theorem inH {w : Str} (h : PyData.strOk w = true) : uInP false (.str w) (.tup [.str "not_before", .str "given_up"]) = some (.bl (hW w)) := inS2 h strOk_work strOk_given rfl
theorem inM {w : Str} (h : PyData.strOk w = true) : uInP false (.str w) (.tup [.str "after", .str "last", .str "first"]) = some (.bl (mW w)) := inS3 h strOk_after strOk_last strOk_first rfl
theorem it_non  : uIsi itab [.ty "tuple"] .non = some (.bl false) := rfl
theorem it_bl {b : Bool} : uIsi itab [.ty "tuple"] (.bl b) = some (.bl false) := rfl
theorem it_int {i : Int} : uIsi itab [.ty "tuple"] (.int i) = some (.bl false) := rfl
theorem it_str {w : Str} : uIsi itab [.ty "tuple"] (.str w) = some (.bl false) := rfl
theorem it_tup {xs : List U} : uIsi itab [.ty "tuple"] (.tup xs) = some (.bl true) := rfl
theorem it_lst {xs : List U} : uIsi itab [.ty "tuple"] (.lst xs) = some (.bl false) := rfl
theorem it_emp  : uIsi itab [.ty "tuple"] .emp = some (.bl false) := rfl
theorem is_non  : uIsi itab [.ty "str"] .non = some (.bl false) := rfl
theorem is_bl {b : Bool} : uIsi itab [.ty "str"] (.bl b) = some (.bl false) := rfl
theorem is_int {i : Int} : uIsi itab [.ty "str"] (.int i) = some (.bl false) := rfl
theorem is_str {w : Str} : uIsi itab [.ty "str"] (.str w) = some (.bl true) := rfl
theorem is_tup {xs : List U} : uIsi itab [.ty "str"] (.tup xs) = some (.bl false) := rfl
theorem is_lst {xs : List U} : uIsi itab [.ty "str"] (.lst xs) = some (.bl false) := rfl
theorem is_emp  : uIsi itab [.ty "str"] .emp = some (.bl false) := rfl
theorem ii_non  : uIsi itab [.ty "int"] .non = some (.bl false) := rfl
theorem ii_bl {b : Bool} : uIsi itab [.ty "int"] (.bl b) = some (.bl true) := rfl
theorem ii_int {i : Int} : uIsi itab [.ty "int"] (.int i) = some (.bl true) := rfl
theorem ii_str {w : Str} : uIsi itab [.ty "int"] (.str w) = some (.bl false) := rfl
theorem ii_tup {xs : List U} : uIsi itab [.ty "int"] (.tup xs) = some (.bl false) := rfl
theorem ii_lst {xs : List U} : uIsi itab [.ty "int"] (.lst xs) = some (.bl false) := rfl
theorem ii_emp  : uIsi itab [.ty "int"] .emp = some (.bl false) := rfl
theorem ib_non  : uIsi itab [.ty "bool"] .non = some (.bl false) := rfl
theorem ib_bl {b : Bool} : uIsi itab [.ty "bool"] (.bl b) = some (.bl true) := rfl
theorem ib_int {i : Int} : uIsi itab [.ty "bool"] (.int i) = some (.bl false) := rfl
theorem ib_str {w : Str} : uIsi itab [.ty "bool"] (.str w) = some (.bl false) := rfl
theorem ib_tup {xs : List U} : uIsi itab [.ty "bool"] (.tup xs) = some (.bl false) := rfl
theorem ib_lst {xs : List U} : uIsi itab [.ty "bool"] (.lst xs) = some (.bl false) := rfl
theorem ib_emp  : uIsi itab [.ty "bool"] .emp = some (.bl false) := rfl
def isI : U → Bool
  | .int _ => true
  | _ => false
theorem is_whole_ok (a : U) (h : wd a) : ∃ r, uf_is_whole [a] = .ok (.bl (isI a)) r := by
  cases a with
  | fl _ => exact h.elim
  | exc _ _ => exact h.elim
  | non => exact ⟨_, rfl⟩
  | bl b => exact ⟨_, rfl⟩
  | int i => exact ⟨_, rfl⟩
  | str i => exact ⟨_, rfl⟩
  | tup i => exact ⟨_, rfl⟩
  | lst i => exact ⟨_, rfl⟩
  | emp => exact ⟨_, rfl⟩
end P
namespace P
open PySem PySem.Spec PyProof.Rows L2 Z
theorem ix0 {x : U} {xs : List U} : uIx (.tup (x :: xs)) (.int 0) = some x := by
  have : (0 : Int) < (xs.length : Int) + 1 := by omega
  simp [uIx, L2.atI, L2.ixN, uItems, this]
theorem ix1 {x y : U} {xs : List U} : uIx (.tup (x :: y :: xs)) (.int 1) = some y := by
  have : (1 : Int) < (xs.length : Int) + 1 + 1 := by omega
  simp [uIx, L2.atI, L2.ixN, uItems, this]
theorem ix2 {x y z : U} {xs : List U} : uIx (.tup (x :: y :: z :: xs)) (.int 2) = some z := by
  have : (2 : Int) < (xs.length : Int) + 1 + 1 + 1 := by omega
  simp [uIx, L2.atI, L2.ixN, uItems, this]
theorem len_t {xs : List U} : uLen (.tup xs) = some (.int xs.length) := rfl
theorem and_bb {f g : UE} {e : UV} {a b : Bool} (h : f e = .ok (.bl a) e) (h2 : a = true → g e = .ok (.bl b) e) : uAnd f g e = .ok (.bl (a && b)) e := by
  cases a with
  | false => simp [uAnd, h, UQ.bind, uTru, uTruth]
  | true => simp [uAnd, h, UQ.bind, uTru, uTruth, h2 rfl]
theorem or_bb {f g : UE} {e : UV} {a b : Bool} (h : f e = .ok (.bl a) e) (h2 : a = false → g e = .ok (.bl b) e) : uOr f g e = .ok (.bl (a || b)) e := by
  cases a with
  | true => simp [uOr, h, UQ.bind, uTru, uTruth]
  | false => simp [uOr, h, UQ.bind, uTru, uTruth, h2 rfl]
theorem chain_bb {h1 h2 : U → U → Option U} {f g l : UE} {e : UV} {x y z : U} {p q : Bool} (a : f e = .ok x e) (b : g e = .ok y e) (c : h1 x y = some (.bl p)) (d : p = true → l e = .ok z e ∧ h2 y z = some (.bl q)) : uChain h1 h2 f g l e = .ok (.bl (p && q)) e := by
  cases p with
  | false => simp [uChain, a, b, c, UQ.bind, uBool]
  | true => obtain ⟨d1, d2⟩ := d rfl; simp [uChain, a, b, c, UQ.bind, uBool, d1, d2, uRet]
theorem begun_no {x : U} {k : Int} (h : wd x) (hx : ∀ w a ps, x ≠ .tup (.str w :: a :: ps)) : ∃ r, uf_is_begun [x, .int k] = .ok (.bl false) r := by
  cases x with
  | fl _ => exact h.elim
  | exc _ _ => exact h.elim
  | non => exact ⟨_, by simp [uf_is_begun, ub_is_begun, uC, uV, uBin, uUn, uNil, uCons, uTup, uLst, uIf, uCall, uArgs, Z.fill, Arg.get, wbk, pick, Opd.run, Opd.get, UQ.bind, uRet, uSeq, uSet, uEx, uReturn, uIfS, US.then, UQ.s, uCmp, uBool, uOf, uAndB, uOrB, uNotB, uTrue, uTruth, uSub, uPar, uRun, uRunF, uAdd, uSub2, uDiv, uMod, uPow, uNeg, uCmpI, uIx, uLen, uAbs, uToInt, uTuple, uItems, uNop, L2.atI, L2.ixN, List.replicate, uIsi, tyU, isAny, itab]; rfl⟩
  | bl b => exact ⟨_, by simp [uf_is_begun, ub_is_begun, uC, uV, uBin, uUn, uNil, uCons, uTup, uLst, uIf, uCall, uArgs, Z.fill, Arg.get, wbk, pick, Opd.run, Opd.get, UQ.bind, uRet, uSeq, uSet, uEx, uReturn, uIfS, US.then, UQ.s, uCmp, uBool, uOf, uAndB, uOrB, uNotB, uTrue, uTruth, uSub, uPar, uRun, uRunF, uAdd, uSub2, uDiv, uMod, uPow, uNeg, uCmpI, uIx, uLen, uAbs, uToInt, uTuple, uItems, uNop, L2.atI, L2.ixN, List.replicate, it_non, it_bl, it_int, it_str, it_tup, it_lst, it_emp, is_non, is_bl, is_int, is_str, is_tup, is_lst, is_emp, ii_non, ii_bl, ii_int, ii_str, ii_tup, ii_lst, ii_emp, ib_non, ib_bl, ib_int, ib_str, ib_tup, ib_lst, ib_emp]; rfl⟩
  | int i => exact ⟨_, by simp [uf_is_begun, ub_is_begun, uC, uV, uBin, uUn, uNil, uCons, uTup, uLst, uIf, uCall, uArgs, Z.fill, Arg.get, wbk, pick, Opd.run, Opd.get, UQ.bind, uRet, uSeq, uSet, uEx, uReturn, uIfS, US.then, UQ.s, uCmp, uBool, uOf, uAndB, uOrB, uNotB, uTrue, uTruth, uSub, uPar, uRun, uRunF, uAdd, uSub2, uDiv, uMod, uPow, uNeg, uCmpI, uIx, uLen, uAbs, uToInt, uTuple, uItems, uNop, L2.atI, L2.ixN, List.replicate, it_non, it_bl, it_int, it_str, it_tup, it_lst, it_emp, is_non, is_bl, is_int, is_str, is_tup, is_lst, is_emp, ii_non, ii_bl, ii_int, ii_str, ii_tup, ii_lst, ii_emp, ib_non, ib_bl, ib_int, ib_str, ib_tup, ib_lst, ib_emp]; rfl⟩
  | str i => exact ⟨_, by simp [uf_is_begun, ub_is_begun, uC, uV, uBin, uUn, uNil, uCons, uTup, uLst, uIf, uCall, uArgs, Z.fill, Arg.get, wbk, pick, Opd.run, Opd.get, UQ.bind, uRet, uSeq, uSet, uEx, uReturn, uIfS, US.then, UQ.s, uCmp, uBool, uOf, uAndB, uOrB, uNotB, uTrue, uTruth, uSub, uPar, uRun, uRunF, uAdd, uSub2, uDiv, uMod, uPow, uNeg, uCmpI, uIx, uLen, uAbs, uToInt, uTuple, uItems, uNop, L2.atI, L2.ixN, List.replicate, it_non, it_bl, it_int, it_str, it_tup, it_lst, it_emp, is_non, is_bl, is_int, is_str, is_tup, is_lst, is_emp, ii_non, ii_bl, ii_int, ii_str, ii_tup, ii_lst, ii_emp, ib_non, ib_bl, ib_int, ib_str, ib_tup, ib_lst, ib_emp]; rfl⟩
  | lst i => exact ⟨_, by simp [uf_is_begun, ub_is_begun, uC, uV, uBin, uUn, uNil, uCons, uTup, uLst, uIf, uCall, uArgs, Z.fill, Arg.get, wbk, pick, Opd.run, Opd.get, UQ.bind, uRet, uSeq, uSet, uEx, uReturn, uIfS, US.then, UQ.s, uCmp, uBool, uOf, uAndB, uOrB, uNotB, uTrue, uTruth, uSub, uPar, uRun, uRunF, uAdd, uSub2, uDiv, uMod, uPow, uNeg, uCmpI, uIx, uLen, uAbs, uToInt, uTuple, uItems, uNop, L2.atI, L2.ixN, List.replicate, it_non, it_bl, it_int, it_str, it_tup, it_lst, it_emp, is_non, is_bl, is_int, is_str, is_tup, is_lst, is_emp, ii_non, ii_bl, ii_int, ii_str, ii_tup, ii_lst, ii_emp, ib_non, ib_bl, ib_int, ib_str, ib_tup, ib_lst, ib_emp]; rfl⟩
  | emp => exact ⟨_, by simp [uf_is_begun, ub_is_begun, uC, uV, uBin, uUn, uNil, uCons, uTup, uLst, uIf, uCall, uArgs, Z.fill, Arg.get, wbk, pick, Opd.run, Opd.get, UQ.bind, uRet, uSeq, uSet, uEx, uReturn, uIfS, US.then, UQ.s, uCmp, uBool, uOf, uAndB, uOrB, uNotB, uTrue, uTruth, uSub, uPar, uRun, uRunF, uAdd, uSub2, uDiv, uMod, uPow, uNeg, uCmpI, uIx, uLen, uAbs, uToInt, uTuple, uItems, uNop, L2.atI, L2.ixN, List.replicate, it_non, it_bl, it_int, it_str, it_tup, it_lst, it_emp, is_non, is_bl, is_int, is_str, is_tup, is_lst, is_emp, ii_non, ii_bl, ii_int, ii_str, ii_tup, ii_lst, ii_emp, ib_non, ib_bl, ib_int, ib_str, ib_tup, ib_lst, ib_emp]; rfl⟩
  | tup xs =>
    cases xs with
    | nil => exact ⟨_, by simp [uf_is_begun, ub_is_begun, uC, uV, uBin, uUn, uNil, uCons, uTup, uLst, uIf, uCall, uArgs, Z.fill, Arg.get, wbk, pick, Opd.run, Opd.get, UQ.bind, uRet, uSeq, uSet, uEx, uReturn, uIfS, US.then, UQ.s, uCmp, uBool, uOf, uAndB, uOrB, uNotB, uTrue, uTruth, uSub, uPar, uRun, uRunF, uAdd, uSub2, uDiv, uMod, uPow, uNeg, uCmpI, uIx, uLen, uAbs, uToInt, uTuple, uItems, uNop, L2.atI, L2.ixN, List.replicate, it_non, it_bl, it_int, it_str, it_tup, it_lst, it_emp, is_non, is_bl, is_int, is_str, is_tup, is_lst, is_emp, ii_non, ii_bl, ii_int, ii_str, ii_tup, ii_lst, ii_emp, ib_non, ib_bl, ib_int, ib_str, ib_tup, ib_lst, ib_emp]; rfl⟩
    | cons y ys =>
      cases ys with
      | nil => exact ⟨_, by simp [uf_is_begun, ub_is_begun, uC, uV, uBin, uUn, uNil, uCons, uTup, uLst, uIf, uCall, uArgs, Z.fill, Arg.get, wbk, pick, Opd.run, Opd.get, UQ.bind, uRet, uSeq, uSet, uEx, uReturn, uIfS, US.then, UQ.s, uCmp, uBool, uOf, uAndB, uOrB, uNotB, uTrue, uTruth, uSub, uPar, uRun, uRunF, uAdd, uSub2, uDiv, uMod, uPow, uNeg, uCmpI, uIx, uLen, uAbs, uToInt, uTuple, uItems, uNop, L2.atI, L2.ixN, List.replicate, it_non, it_bl, it_int, it_str, it_tup, it_lst, it_emp, is_non, is_bl, is_int, is_str, is_tup, is_lst, is_emp, ii_non, ii_bl, ii_int, ii_str, ii_tup, ii_lst, ii_emp, ib_non, ib_bl, ib_int, ib_str, ib_tup, ib_lst, ib_emp]; rfl⟩
      | cons z zs =>
        have hy := h.1
        cases y with
        | str w => exact absurd rfl (hx w z zs)
        | fl _ => exact hy.elim
        | exc _ _ => exact hy.elim
        | non => exact ⟨_, by simp [uf_is_begun, ub_is_begun, uC, uV, uBin, uUn, uNil, uCons, uTup, uLst, uIf, uCall, uArgs, Z.fill, Arg.get, wbk, pick, Opd.run, Opd.get, UQ.bind, uRet, uSeq, uSet, uEx, uReturn, uIfS, US.then, UQ.s, uCmp, uBool, uOf, uAndB, uOrB, uNotB, uTrue, uTruth, uSub, uPar, uRun, uRunF, uAdd, uSub2, uDiv, uMod, uPow, uNeg, uCmpI, uIx, uLen, uAbs, uToInt, uTuple, uItems, uNop, L2.atI, L2.ixN, List.replicate, it_non, it_bl, it_int, it_str, it_tup, it_lst, it_emp, is_non, is_bl, is_int, is_str, is_tup, is_lst, is_emp, ii_non, ii_bl, ii_int, ii_str, ii_tup, ii_lst, ii_emp, ib_non, ib_bl, ib_int, ib_str, ib_tup, ib_lst, ib_emp]; rfl⟩
        | bl b => exact ⟨_, by simp [uf_is_begun, ub_is_begun, uC, uV, uBin, uUn, uNil, uCons, uTup, uLst, uIf, uCall, uArgs, Z.fill, Arg.get, wbk, pick, Opd.run, Opd.get, UQ.bind, uRet, uSeq, uSet, uEx, uReturn, uIfS, US.then, UQ.s, uCmp, uBool, uOf, uAndB, uOrB, uNotB, uTrue, uTruth, uSub, uPar, uRun, uRunF, uAdd, uSub2, uDiv, uMod, uPow, uNeg, uCmpI, uIx, uLen, uAbs, uToInt, uTuple, uItems, uNop, L2.atI, L2.ixN, List.replicate, it_non, it_bl, it_int, it_str, it_tup, it_lst, it_emp, is_non, is_bl, is_int, is_str, is_tup, is_lst, is_emp, ii_non, ii_bl, ii_int, ii_str, ii_tup, ii_lst, ii_emp, ib_non, ib_bl, ib_int, ib_str, ib_tup, ib_lst, ib_emp]; rfl⟩
        | int i => exact ⟨_, by simp [uf_is_begun, ub_is_begun, uC, uV, uBin, uUn, uNil, uCons, uTup, uLst, uIf, uCall, uArgs, Z.fill, Arg.get, wbk, pick, Opd.run, Opd.get, UQ.bind, uRet, uSeq, uSet, uEx, uReturn, uIfS, US.then, UQ.s, uCmp, uBool, uOf, uAndB, uOrB, uNotB, uTrue, uTruth, uSub, uPar, uRun, uRunF, uAdd, uSub2, uDiv, uMod, uPow, uNeg, uCmpI, uIx, uLen, uAbs, uToInt, uTuple, uItems, uNop, L2.atI, L2.ixN, List.replicate, it_non, it_bl, it_int, it_str, it_tup, it_lst, it_emp, is_non, is_bl, is_int, is_str, is_tup, is_lst, is_emp, ii_non, ii_bl, ii_int, ii_str, ii_tup, ii_lst, ii_emp, ib_non, ib_bl, ib_int, ib_str, ib_tup, ib_lst, ib_emp]; rfl⟩
        | lst i => exact ⟨_, by simp [uf_is_begun, ub_is_begun, uC, uV, uBin, uUn, uNil, uCons, uTup, uLst, uIf, uCall, uArgs, Z.fill, Arg.get, wbk, pick, Opd.run, Opd.get, UQ.bind, uRet, uSeq, uSet, uEx, uReturn, uIfS, US.then, UQ.s, uCmp, uBool, uOf, uAndB, uOrB, uNotB, uTrue, uTruth, uSub, uPar, uRun, uRunF, uAdd, uSub2, uDiv, uMod, uPow, uNeg, uCmpI, uIx, uLen, uAbs, uToInt, uTuple, uItems, uNop, L2.atI, L2.ixN, List.replicate, it_non, it_bl, it_int, it_str, it_tup, it_lst, it_emp, is_non, is_bl, is_int, is_str, is_tup, is_lst, is_emp, ii_non, ii_bl, ii_int, ii_str, ii_tup, ii_lst, ii_emp, ib_non, ib_bl, ib_int, ib_str, ib_tup, ib_lst, ib_emp]; rfl⟩
        | emp => exact ⟨_, by simp [uf_is_begun, ub_is_begun, uC, uV, uBin, uUn, uNil, uCons, uTup, uLst, uIf, uCall, uArgs, Z.fill, Arg.get, wbk, pick, Opd.run, Opd.get, UQ.bind, uRet, uSeq, uSet, uEx, uReturn, uIfS, US.then, UQ.s, uCmp, uBool, uOf, uAndB, uOrB, uNotB, uTrue, uTruth, uSub, uPar, uRun, uRunF, uAdd, uSub2, uDiv, uMod, uPow, uNeg, uCmpI, uIx, uLen, uAbs, uToInt, uTuple, uItems, uNop, L2.atI, L2.ixN, List.replicate, it_non, it_bl, it_int, it_str, it_tup, it_lst, it_emp, is_non, is_bl, is_int, is_str, is_tup, is_lst, is_emp, ii_non, ii_bl, ii_int, ii_str, ii_tup, ii_lst, ii_emp, ib_non, ib_bl, ib_int, ib_str, ib_tup, ib_lst, ib_emp]; rfl⟩
        | tup _ => exact ⟨_, by simp [uf_is_begun, ub_is_begun, uC, uV, uBin, uUn, uNil, uCons, uTup, uLst, uIf, uCall, uArgs, Z.fill, Arg.get, wbk, pick, Opd.run, Opd.get, UQ.bind, uRet, uSeq, uSet, uEx, uReturn, uIfS, US.then, UQ.s, uCmp, uBool, uOf, uAndB, uOrB, uNotB, uTrue, uTruth, uSub, uPar, uRun, uRunF, uAdd, uSub2, uDiv, uMod, uPow, uNeg, uCmpI, uIx, uLen, uAbs, uToInt, uTuple, uItems, uNop, L2.atI, L2.ixN, List.replicate, it_non, it_bl, it_int, it_str, it_tup, it_lst, it_emp, is_non, is_bl, is_int, is_str, is_tup, is_lst, is_emp, ii_non, ii_bl, ii_int, ii_str, ii_tup, ii_lst, ii_emp, ib_non, ib_bl, ib_int, ib_str, ib_tup, ib_lst, ib_emp]; rfl⟩
theorem begun_if {w : Str} {z : U} {zs : List U} {k : Int} : (uOrB (uNotB (uOf (.now (uUn (uIsi itab [.ty "tuple"]) (.now (uV 0)))))) (uOrB (uCmp uLt (.now (uUn uLen (.now (uV 0)))) (.now (uC (.int 2)))) (uNotB (uOf (.now (uUn (uIsi itab [.ty "str"]) (.now (uBin uIx (.now (uV 0)) (.now (uC (.int 0)))))))))))
    [some (.tup (.str w :: z :: zs)), some (.int k), none] = .ok false [some (.tup (.str w :: z :: zs)), some (.int k), none] := by
  have : ¬ ((zs.length : Int) + 1 + 1 < 2) := by omega
  simp [uC, uV, uBin, uUn, uNil, uCons, uTup, uLst, uIf, uCall, uArgs, Z.fill, Arg.get, wbk, pick, Opd.run, Opd.get, UQ.bind, uRet, uSeq, uSet, uEx, uReturn, uIfS, US.then, UQ.s, uCmp, uBool, uOf, uAndB, uOrB, uNotB, uTrue, uTruth, uSub, uPar, uRun, uRunF, uAdd, uSub2, uDiv, uMod, uPow, uNeg, uCmpI, uIx, uLen, uAbs, uToInt, uTuple, uItems, uNop, L2.atI, L2.ixN, List.replicate, it_non, it_bl, it_int, it_str, it_tup, it_lst, it_emp, is_non, is_bl, is_int, is_str, is_tup, is_lst, is_emp, ii_non, ii_bl, ii_int, ii_str, ii_tup, ii_lst, ii_emp, ib_non, ib_bl, ib_int, ib_str, ib_tup, ib_lst, ib_emp, this]
theorem whole_call {w : Str} {z : U} {zs : List U} {a b : Option U} (h : wd z) : uCall [0] [] [.val (uBin uIx (.now (uV 0)) (.now (uC (.int 1))))] [] uf_is_whole [some (.tup (.str w :: z :: zs)), a, b] = .ok (.bl (isI z)) [some (.tup (.str w :: z :: zs)), a, b] := by
  obtain ⟨r, e⟩ := is_whole_ok z h
  exact call1v (f := uBin uIx (.now (uV 0)) (.now (uC (.int 1)))) (a := z) (bin_ok rfl rfl ix1) e
theorem eqW {a b : Str} {r : Bool} (h : (a == b) = r) : uEq (.str a) (.str b) = some (.bl r) := by subst h; rfl
theorem eqI2 {a b : Int} : uEq (.int a) (.int b) = some (.bl (decide (a = b))) := eqI
theorem len_e {w : Str} {z : U} {zs : List U} {a b : Option U} : uUn uLen (.now (uV 0)) [some (.tup (.str w :: z :: zs)), a, b] = .ok (.int (zs.length + 2 : Nat)) [some (.tup (.str w :: z :: zs)), a, b] := un_ok rfl len_t
theorem begun_yes {w : Str} {z : U} {zs : List U} {k : Int} (hw : PyData.strOk w = true) (h : wd z) : ∃ r, uf_is_begun [.tup (.str w :: z :: zs), .int k] = .ok (.bl (bg k (.tup (.str w :: z :: zs)))) r := by
  have c := @whole_call w z zs (some (.int k)) (some (.str w)) h
  have i1 := inH hw
  have i2 := inM hw
  refine ⟨[some (.tup (.str w :: z :: zs)), some (.int k), some (.str w)], run_rt rfl (e0 := [some (.tup (.str w :: z :: zs)), some (.int k), none]) ?_⟩
  refine seq_nx (if_no begun_if rfl) (seq_nx (set_ok (bin_ok rfl rfl ix0)) ?_)
  have lz : decide (((zs.length + 2 : Nat) : Int) = 2) = decide (zs.length = 0) := by congr 1; apply propext; omega
  have lo : decide (((zs.length + 2 : Nat) : Int) = 3) = decide (zs.length = 1) := by congr 1; apply propext; omega
  have l3 : decide (3 ≤ ((zs.length + 2 : Nat) : Int)) = decide (1 ≤ zs.length) := by congr 1; apply propext; omega
  have l5 : decide (((zs.length + 2 : Nat) : Int) ≤ 5) = decide (zs.length ≤ 3) := by congr 1; apply propext; omega
  rcases kinds w with q | q | q | q | q
  · refine seq_rt (if_yes (cmp_ok rfl rfl (eqW q.a)) (seq_rt (ret_ok ?_)))
    have : bg k (.tup (.str w :: z :: zs)) = (decide (zs.length = 0) && (isI z && (whl z && bel k z))) := by
      simp only [bg, q.a]
      cases z <;> rfl
    rw [this, ← lz]
    refine and_bb (bin_ok len_e rfl eqI2) fun _ => and_bb c fun hi => ?_
    cases z with
    | int i => exact chain_bb rfl (bin_ok rfl rfl ix1) rfl fun _ => ⟨rfl, rfl⟩
    | _ => cases hi
  · refine seq_nx (if_no (cmp_ok rfl rfl (eqW q.a)) rfl) (seq_rt (if_yes (cmp_ok rfl rfl (eqW q.r)) (seq_rt (ret_ok ?_))))
    have : bg k (.tup (.str w :: z :: zs)) = (decide (zs.length = 0) && (isI z && whl z)) := by
      simp only [bg, q.a, q.r]
      cases z <;> rfl
    rw [this, ← lz]
    refine and_bb (bin_ok len_e rfl eqI2) fun _ => and_bb c fun hi => ?_
    cases z with
    | int i => exact bin_ok (bin_ok rfl rfl ix1) rfl rfl
    | _ => cases hi
  · refine seq_nx (if_no (cmp_ok rfl rfl (eqW q.a)) rfl) (seq_nx (if_no (cmp_ok rfl rfl (eqW q.r)) rfl) (seq_rt (if_yes (cmp_ok rfl rfl (i1.trans (by rw [q.h]))) (seq_rt (ret_ok ?_)))))
    have : bg k (.tup (.str w :: z :: zs)) = decide (zs.length = 1) := by
      simp only [bg, q.a, q.r, q.h]
      rfl
    rw [this, ← lo]
    exact bin_ok len_e rfl eqI2
  all_goals
    refine seq_nx (if_no (cmp_ok rfl rfl (eqW q.a)) rfl) (seq_nx (if_no (cmp_ok rfl rfl (eqW q.r)) rfl) (seq_nx (if_no (cmp_ok rfl rfl (i1.trans (by rw [q.h]))) rfl) (seq_rt (ret_ok ?_))))
    have : bg k (.tup (.str w :: z :: zs)) = (mW w && (decide (1 ≤ zs.length) && decide (zs.length ≤ 3))) := by
      simp only [bg, q.a, q.r, q.h]
      rfl
    rw [this, ← l3, ← l5]
    exact and_bb (bin_ok rfl rfl i2) fun _ => chain_bb rfl len_e rfl fun _ => ⟨rfl, rfl⟩
end P
namespace P
open PySem PySem.Spec PyProof.Rows L2 Z
def isj : U → Bool
  | .tup (.str w :: _) => mW w || hW w
  | _ => false
def pts : U → List U
  | .tup (.str w :: a :: ps) => if hW w then .tup [.str "rest", a] :: ps else a :: ps
  | _ => []
theorem bg_form {x : U} {k : Int} (h : bg k x = true) : ∃ w a ps, x = .tup (.str w :: a :: ps) := by
  unfold bg at h
  split at h
  · exact ⟨_, _, _, rfl⟩
  · cases h
theorem jn_form {x : U} {k : Int} {s : Nat} (h : jn k x = some s) : ∃ w a ps, x = .tup (.str w :: a :: ps) ∧ comb k w a ps.length (jn k a) (jns k ps) = some s := by
  cases x with
  | tup xs =>
    simp only [jn] at h
    unfold jt at h
    split at h
    · exact ⟨_, _, _, rfl, h⟩
    · cases h
  | _ => simp [jn] at h
theorem jn_no {x : U} {k : Int} (h : bg k x = false) : jn k x = none := by
  cases e : jn k x with
  | none => rfl
  | some s =>
    exfalso
    obtain ⟨w, a, ps, rfl, e2⟩ := jn_form e
    unfold comb at e2
    simp only [bg] at h
    rcases kinds w with q | q | q | q | q <;> simp only [q.a, q.r, q.h, q.m] at e2 h <;> simp at e2 h
    · simp [e2] at h
    · simp [e2] at h
    · omega
    · obtain ⟨z, _⟩ := e2
      omega
theorem jn_leaf {x : U} {k : Int} (h : bg k x = true) (hj : isj x = false) : jn k x = some 0 := by
  obtain ⟨w, a, ps, rfl⟩ := bg_form h
  simp only [jn, jt, comb]
  simp only [bg] at h
  simp only [isj] at hj
  rcases kinds w with q | q | q | q | q <;> simp only [q.a, q.r, q.h, q.m] at h hj ⊢ <;> simp at h hj ⊢
  · exact h
  · exact h
theorem jn_join {x : U} {k : Int} (h : bg k x = true) (hj : isj x = true) : jn k x = (jns k (pts x)).map (1 + ·) ∧ (pts x).length ≤ 4 := by
  obtain ⟨w, a, ps, rfl⟩ := bg_form h
  have rr : (("rest" : Str) == "work") = false := by decide +kernel
  have r2 : (("rest" : Str) == "rest") = true := by decide +kernel
  simp only [jn, jt, comb, pts]
  simp only [bg] at h
  simp only [isj] at hj
  rcases kinds w with q | q | q | q | q <;> simp only [q.a, q.r, q.h, q.m] at h hj ⊢ <;> simp at h hj ⊢
  · constructor
    · simp only [jns, jn, jt, comb, rr, r2]
      by_cases hw : whl a = true
      · simp [hw, h]
        cases jns k ps <;> simp
      · simp [hw]
    · omega
  · constructor
    · rw [if_pos (by omega)]
      simp only [jns]
      cases jn k a <;> cases jns k ps <;> simp
    · omega
theorem jns_app {k : Int} : ∀ (xs ys : List U), jns k (xs ++ ys) = match jns k xs, jns k ys with | some a, some b => some (a + b) | _, _ => none
  | [], ys => by
    simp only [List.nil_append, jns]
    cases jns k ys <;> simp
  | x :: xs, ys => by
    simp only [List.cons_append, jns, jns_app xs ys]
    cases jn k x <;> cases jns k xs <;> cases jns k ys <;> simp
    omega
def res (k : Int) (j : Nat) (ws : List U) : Bool := match jns k ws with
  | some s => decide (j + s ≤ 12)
  | none => false
theorem jns_one {k : Int} {x : U} : jns k [x] = jn k x := by
  simp only [jns]
  cases jn k x <;> rfl
theorem res_no {k : Int} {j : Nat} {ws : List U} {x : U} (h : jn k x = none) : res k j (ws ++ [x]) = false := by
  unfold res
  rw [jns_app, jns_one, h]
  cases jns k ws <;> rfl
theorem res_leaf {k : Int} {j : Nat} {ws : List U} {x : U} (h : jn k x = some 0) : res k j (ws ++ [x]) = res k j ws := by
  unfold res
  rw [jns_app, jns_one, h]
  cases jns k ws <;> rfl
theorem res_join {k : Int} {j : Nat} {ws ps : List U} {x : U} (h : jn k x = (jns k ps).map (1 + ·)) : res k j (ws ++ [x]) = res k (j + 1) (ws ++ ps) := by
  unfold res
  rw [jns_app, jns_one, h, jns_app]
  cases jns k ws <;> cases jns k ps <;> simp
  omega
theorem res_full {k : Int} {j : Nat} {ws : List U} (h : 12 < j) : res k j ws = false := by
  unfold res
  cases jns k ws with
  | none => rfl
  | some s => simp; omega
theorem wds_app : ∀ {xs ys : List U}, wds xs → wds ys → wds (xs ++ ys)
  | [], _, _, h => h
  | x :: xs, _, h, h2 => ⟨h.1, wds_app h.2 h2⟩
theorem wds_l : ∀ {xs ys : List U}, wds (xs ++ ys) → wds xs ∧ wds ys
  | [], _, h => ⟨trivial, h⟩
  | x :: xs, _, h => ⟨⟨h.1, (wds_l h.2).1⟩, (wds_l h.2).2⟩
theorem wd_pts {x : U} (h : wd x) : wds (pts x) := by
  unfold pts
  split
  · rename_i w a ps
    obtain ⟨h1, h2, h3⟩ := h
    split
    · exact ⟨⟨strOk_rest, h2, trivial⟩, h3⟩
    · exact ⟨h2, h3⟩
  · trivial
theorem join_ok {w : Str} {a : U} {ps : List U} (hw : PyData.strOk w = true) : ∃ r, uf_is_join [.tup (.str w :: a :: ps)] = .ok (.bl (mW w || hW w)) r := by
  refine ⟨[some (.tup (.str w :: a :: ps))], run_ret1 (e0 := [some (.tup (.str w :: a :: ps))]) rfl ?_⟩
  exact or_bb (bin_ok (bin_ok rfl rfl ix0) rfl (inM hw)) fun _ => bin_ok (bin_ok rfl rfl ix0) rfl (inH hw)
theorem parts_ok {k : Int} {x : U} (h : wd x) (hb : bg k x = true) (hj : isj x = true) : ∃ r, uf_parts_of [x] = .ok (.tup (pts x)) r := by
  obtain ⟨w, a, ps, rfl⟩ := bg_form hb
  have hw := h.1
  have i1 := inH hw
  have i2 := inM hw
  simp only [bg] at hb
  simp only [isj] at hj
  rcases kinds w with q | q | q | q | q <;> simp only [q.a, q.r, q.h, q.m] at hb hj <;> simp at hb hj
  · obtain ⟨p, rfl⟩ : ∃ p, ps = [p] := by
      match ps, hb with
      | [p], _ => exact ⟨p, rfl⟩
    have e : pts (.tup [.str w, a, p]) = [.tup [.str "rest", a], p] := by simp only [pts, q.h]; rfl
    rw [e]
    refine ⟨[some (.tup [.str w, a, p])], run_rt (e0 := [some (.tup [.str w, a, p])]) rfl (seq_rt (if_yes (cmp_ok (bin_ok rfl rfl ix0) rfl (i1.trans (by rw [q.h]))) (seq_rt (ret_ok ?_))))⟩
    exact tup_ok (Z.cons_ok (tup_ok (Z.cons_ok rfl (Z.cons_ok (bin_ok rfl rfl ix1) nil_ok2)) (by simp)) (Z.cons_ok (bin_ok rfl rfl ix2) nil_ok2)) (by simp)
  · have e : pts (.tup (.str w :: a :: ps)) = a :: ps := by simp only [pts, q.h]; rfl
    rw [e]
    refine ⟨[some (.tup (.str w :: a :: ps))], run_rt (e0 := [some (.tup (.str w :: a :: ps))]) rfl (seq_nx (if_no (cmp_ok (bin_ok rfl rfl ix0) rfl (i1.trans (by rw [q.h]))) rfl) (seq_rt (if_yes (cmp_ok (bin_ok rfl rfl ix0) rfl (i2.trans (by rw [q.m]))) (seq_rt (ret_ok ?_)))))⟩
    simp [uSl, uInt1, uPart, uSlc, cutL, HT.sIx, uC, uV, uBin, uUn, uNil, uCons, uTup, uLst, uIf, uCall, uArgs, Z.fill, Arg.get, wbk, pick, Opd.run, Opd.get, UQ.bind, uRet, uSeq, uSet, uEx, uReturn, uIfS, US.then, UQ.s, uCmp, uBool, uOf, uAndB, uOrB, uNotB, uTrue, uTruth, uSub, uPar, uRun, uRunF, uAdd, uSub2, uDiv, uMod, uPow, uNeg, uCmpI, uIx, uLen, uAbs, uToInt, uTuple, uItems, uNop, L2.atI, L2.ixN, List.replicate]
end P
namespace P
open PySem PySem.Spec PyProof.Rows L2 Z
noncomputable def nbody : UF := (uSeq (uSet 4 (uPop 3)) (uSeq (uIfS (uNotB (uOf (.now (uCall [0, 1] [] [.val (uV 4), .val (uV 1)] [] uf_is_begun)))) (uSeq (uReturn (uC (.bl false))) (uNop)) (uNop)) (uSeq (uIfS (uOf (.now (uCall [0] [] [.val (uV 4)] [] uf_is_join))) (uSeq (uAugI 2 (fun i j => i + j) (uC (.int 1))) (uSeq (uIfS (uCmp uGt (.now (uV 2)) (.now (uC (.int 12)))) (uSeq (uReturn (uC (.bl false))) (uNop)) (uNop)) (uSeq (uEx (uExt 3 (uCall [0] [] [.val (uV 4)] [] uf_parts_of))) (uNop)))) (uNop)) (uNop))))
abbrev En (x0 : U) (k : Int) (j : Nat) (ws : List U) (y : Option U) : UV := [some x0, some (.int k), some (.int j), some (.lst ws), y]
theorem of_bl {f : UE} {e : UV} {b : Bool} (h : f e = .ok (.bl b) e) : uOf (.now f) e = .ok b e := by
  simp [uOf, Opd.run, h, UQ.bind, Opd.get, uRet, uTruth]
theorem not_b {t : UB} {e : UV} {b : Bool} (h : t e = .ok b e) : uNotB t e = .ok (!b) e := by
  simp [uNotB, h, UQ.bind]
theorem begun_ok {x : U} {k : Int} (h : wd x) : ∃ r, uf_is_begun [x, .int k] = .ok (.bl (bg k x)) r := by
  by_cases hx : ∃ w a ps, x = .tup (.str w :: a :: ps)
  · obtain ⟨w, a, ps, rfl⟩ := hx
    exact begun_yes h.1 h.2.1
  · have e : bg k x = false := by
      cases z : bg k x with
      | false => rfl
      | true => exact absurd (bg_form z) hx
    rw [e]
    exact begun_no h fun w a ps z => hx ⟨w, a, ps, z⟩
theorem body_no {x0 x : U} {k : Int} {j : Nat} {ws : List U} {y : Option U} (h : wd x) (hb : bg k x = false) : nbody (En x0 k j (ws ++ [x]) y) = .ret (.bl false) (En x0 k j ws (some x)) := by
  obtain ⟨r, e⟩ := begun_ok (k := k) h
  rw [hb] at e
  have p : uPop 3 (En x0 k j (ws ++ [x]) y) = .ok x (En x0 k j ws y) := by simp [uPop, En]
  refine seq_nx (set_ok p) (seq_rt (if_yes (not_b (of_bl (b := false) (call2v (f := uV 4) (g := uV 1) (a := x) (b := .int k) rfl rfl e))) (seq_rt (ret_ok rfl))))
theorem body_leaf {x0 x : U} {k : Int} {j : Nat} {ws : List U} {y : Option U} (h : wd x) (hb : bg k x = true) (hj : isj x = false) : nbody (En x0 k j (ws ++ [x]) y) = .nx (En x0 k j ws (some x)) := by
  obtain ⟨r, e⟩ := begun_ok (k := k) h
  rw [hb] at e
  obtain ⟨w, a, ps, rfl⟩ := bg_form hb
  obtain ⟨r2, e2⟩ := @join_ok w a ps h.1
  have hj' : (mW w || hW w) = false := hj
  rw [hj'] at e2
  have p : uPop 3 (En x0 k j (ws ++ [.tup (.str w :: a :: ps)]) y) = .ok (.tup (.str w :: a :: ps)) (En x0 k j ws y) := by simp [uPop, En]
  refine seq_nx (set_ok p) (seq_nx (if_no (not_b (of_bl (b := true) (call2v (f := uV 4) (g := uV 1) (a := .tup (.str w :: a :: ps)) (b := .int k) rfl rfl e))) rfl) (seq_nx (if_no (of_bl (b := false) (call1v (f := uV 4) (a := .tup (.str w :: a :: ps)) rfl e2)) rfl) rfl))
theorem body_join {x0 x : U} {k : Int} {j : Nat} {ws : List U} {y : Option U} (h : wd x) (hb : bg k x = true) (hj : isj x = true) (hl : ws.length ≤ 1000) : nbody (En x0 k j (ws ++ [x]) y) = (if 12 < j + 1 then .ret (.bl false) (En x0 k (j + 1) ws (some x)) else .nx (En x0 k (j + 1) (ws ++ pts x) (some x))) := by
  obtain ⟨r, e⟩ := begun_ok (k := k) h
  rw [hb] at e
  obtain ⟨r3, e3⟩ := parts_ok h hb hj
  have l4 := (jn_join hb hj).2
  obtain ⟨w, a, ps, rfl⟩ := bg_form hb
  obtain ⟨r2, e2⟩ := @join_ok w a ps h.1
  have hj' : (mW w || hW w) = true := hj
  rw [hj'] at e2
  generalize hx : U.tup (.str w :: a :: ps) = x at e e2 e3 l4
  have p : uPop 3 (En x0 k j (ws ++ [x]) y) = .ok x (En x0 k j ws y) := by simp [uPop, En]
  refine seq_nx (set_ok p) (seq_nx (if_no (not_b (of_bl (b := true) (call2v (f := uV 4) (g := uV 1) (a := x) (b := .int k) rfl rfl e))) rfl) ?_)
  have aug : uAugI 2 (fun i j => i + j) (uC (.int 1)) (En x0 k j ws (some x)) = .nx (En x0 k (j + 1) ws (some x)) := rfl
  have c : uCmp uGt (.now (uV 2)) (.now (uC (.int 12))) (En x0 k (j + 1) ws (some x)) = .ok (decide ((12 : Int) < ((j + 1 : Nat) : Int))) (En x0 k (j + 1) ws (some x)) := cmp_ok rfl rfl rfl
  by_cases hf : 12 < j + 1
  · rw [if_pos hf]
    rw [decide_eq_true (by omega)] at c
    exact seq_rt (if_yes (of_bl (b := true) (call1v (f := uV 4) (a := x) rfl e2)) (seq_nx aug (seq_rt (if_yes c (seq_rt (ret_ok rfl))))))
  · rw [if_neg hf]
    rw [decide_eq_false (by omega)] at c
    have ce : uCall [0] [] [.val (uV 4)] [] uf_parts_of (En x0 k (j + 1) ws (some x)) = .ok (.tup (pts x)) (En x0 k (j + 1) ws (some x)) := call1v (f := uV 4) (a := x) rfl e3
    have ex : uExt 3 (uCall [0] [] [.val (uV 4)] [] uf_parts_of) (En x0 k (j + 1) ws (some x)) = .ok .non (En x0 k (j + 1) (ws ++ pts x) (some x)) := by
      have : ws.length + (pts x).length ≤ 100000 := by omega
      unfold uExt
      simp only [ce, UQ.bind]
      show (if ws.length + (pts x).length ≤ 100000 then _ else _) = _
      rw [if_pos this]
      rfl
    have exs : uEx (uExt 3 (uCall [0] [] [.val (uV 4)] [] uf_parts_of)) (En x0 k (j + 1) ws (some x)) = .nx (En x0 k (j + 1) (ws ++ pts x) (some x)) := by
      simp only [uEx, ex, UQ.s]
    exact seq_nx (if_yes (of_bl (b := true) (call1v (f := uV 4) (a := x) rfl e2)) (seq_nx aug (seq_nx (if_no c rfl) (seq_nx exs rfl)))) rfl
theorem loop_ok {x0 : U} {k : Int} : ∀ (μ j : Nat) (ws : List U) (y : Option U), j ≤ 12 → 5 * (12 - j) + ws.length < μ → μ ≤ 200 → wds ws → ∃ e', (res k j ws = true → whileU (uOf (.late 3)) nbody μ (En x0 k j ws y) = .nx e') ∧ (res k j ws = false → whileU (uOf (.late 3)) nbody μ (En x0 k j ws y) = .ret (.bl false) e')
  | 0, _, _, _, _, h, _, _ => absurd h (Nat.not_lt_zero _)
  | μ + 1, j, ws, y, hj, h, hm, hw => by
    rcases List.eq_nil_or_concat ws with z | ⟨vs, x, z⟩
    · subst z
      have : res k j [] = true := by simp [res, jns, hj]
      refine ⟨En x0 k j [] y, fun _ => rfl, fun h => by rw [this] at h; cases h⟩
    · rw [List.concat_eq_append] at z
      subst z
      obtain ⟨w1, w2, _⟩ := wds_l hw
      have t : uOf (.late 3) (En x0 k j (vs ++ [x]) y) = .ok true (En x0 k j (vs ++ [x]) y) := by
        cases vs <;> rfl
      have wl : whileU (uOf (.late 3)) nbody (μ + 1) (En x0 k j (vs ++ [x]) y) = (match nbody (En x0 k j (vs ++ [x]) y) with
        | .nx e2 => whileU (uOf (.late 3)) nbody μ e2
        | .cnt e2 => whileU (uOf (.late 3)) nbody μ e2
        | .brk e2 => .nx e2
        | x => x) := by
        show (uOf (.late 3) (En x0 k j (vs ++ [x]) y)).s _ = _
        rw [t]
        rfl
      rw [wl]
      simp only [List.length_append, List.length_cons, List.length_nil] at h
      cases hb : bg k x with
      | false =>
        rw [body_no w2 hb, res_no (jn_no hb)]
        exact ⟨_, fun z => (by cases z), fun _ => rfl⟩
      | true =>
        cases hi : isj x with
        | false =>
          rw [body_leaf w2 hb hi, res_leaf (jn_leaf hb hi)]
          exact loop_ok μ j vs (some x) hj (by omega) (by omega) w1
        | true =>
          obtain ⟨q1, q2⟩ := jn_join hb hi
          rw [body_join w2 hb hi (by omega), res_join q1]
          by_cases hf : 12 < j + 1
          · rw [if_pos hf, res_full hf]
            exact ⟨_, fun z => (by cases z), fun _ => rfl⟩
          · rw [if_neg hf]
            exact loop_ok μ (j + 1) (vs ++ pts x) (some x) (by omega) (by rw [List.length_append]; omega) (by omega) (wds_app w1 (wd_pts w2))
/-- the program's answer -/
def net? (k : Int) (x : U) : Bool := match jn k x with
  | some s => decide (s ≤ 12)
  | none => false
theorem is_net_ok {x : U} {k : Int} (h : wd x) : ∃ r, uf_is_net [x, .int k] = .ok (.bl (net? k x)) r := by
  have e1 : res k 0 [x] = net? k x := by
    unfold res net?
    rw [jns_one]
    cases jn k x <;> simp
  obtain ⟨e', h1, h2⟩ := loop_ok (x0 := x) (k := k) 100 0 [x] none (by decide) (by simp) (by decide) ⟨h, trivial⟩
  rw [e1] at h1 h2
  have st : ∀ q : US, uSeq (uWhile (uOf (.late 3)) nbody) (uSeq (uReturn (uC (.bl true))) (uNop)) (En x k 0 [x] none) = q → ub_is_net [some x, some (.int k), none, none, none] = q := fun q hq => seq_nx (set_ok rfl) (seq_nx (set_ok (lst_ok (Z.cons_ok rfl nil_ok2) (by simp))) hq)
  cases hn : net? k x with
  | true =>
    have e := h1 hn
    have ew := uWhile_eq (n := 100) (t := uOf (.late 3)) (b := nbody) (e := En x k 0 [x] none) (by rw [e]; intro z; cases z)
    rw [e] at ew
    exact ⟨_, run_rt rfl (st _ (seq_nx ew (seq_rt (ret_ok rfl))))⟩
  | false =>
    have e := h2 hn
    have ew := uWhile_eq (n := 100) (t := uOf (.late 3)) (b := nbody) (e := En x k 0 [x] none) (by rw [e]; intro z; cases z)
    rw [e] at ew
    exact ⟨_, run_rt rfl (st _ (seq_rt ew))⟩
end P
namespace P
open PySem PySem.Spec PyProof.Rows L2 Z
/-! ## the law's own count -/
mutual
def dep : U → Nat
  | .tup xs => deps xs + 1
  | .lst xs => deps xs + 1
  | .emp => 1
  | _ => 0
def deps : List U → Nat
  | [] => 0
  | x :: xs => max (dep x) (deps xs)
end
mutual
def sz : U → Nat
  | .str x => x.cps.size
  | .tup xs => szs xs
  | .lst xs => szs xs
  | _ => 0
def szs : List U → Nat
  | [] => 0
  | x :: xs => sz x + 1 + szs xs
end
theorem szs_len : ∀ xs : List U, xs.length ≤ szs xs
  | [] => Nat.le_refl _
  | x :: xs => by have := szs_len xs; simp only [szs, List.length_cons]; omega
theorem szs_mem : ∀ {xs : List U} {p : U}, p ∈ xs → sz p ≤ szs xs
  | x :: xs, p, h => by
    simp only [szs]
    rcases List.mem_cons.mp h with z | z
    · subst z; omega
    · have := szs_mem z; omega
theorem deps_mem : ∀ {xs : List U} {p : U}, p ∈ xs → dep p ≤ deps xs
  | x :: xs, p, h => by
    simp only [deps]
    rcases List.mem_cons.mp h with z | z
    · subst z; omega
    · have := deps_mem z; omega
theorem wds_mem : ∀ {xs : List U} {p : U}, wds xs → p ∈ xs → wd p
  | x :: xs, p, w, h => by
    rcases List.mem_cons.mp h with z | z
    · subst z; exact w.1
    · exact wds_mem w.2 z
def jU : Option Nat → U
  | none => .non
  | some n => .int n
def jP : Option Nat → PyData
  | none => .none
  | some n => .int n
theorem or_yes {p q : UB} {e e1 : UV} (h : p e = .ok true e1) : uOrB p q e = .ok true e1 := by
  simp [uOrB, h, UQ.bind]
theorem jP_all {k : Nat} : ∀ js : List (Option Nat), optAll (toPU (k + 1)) (js.map jU) = some (js.map jP) ∧ PyData.canLayAll0 (js.map jP) = true ∧ PyData.depthAll (js.map jP) = 0 ∧ ((js.map jP).any fun z => PyData.eqv z .none) = js.any Option.isNone
  | [] => ⟨rfl, rfl, rfl, rfl⟩
  | j :: js => by
    obtain ⟨h1, h2, h3, h4⟩ := @jP_all k js
    cases j with
    | none => exact ⟨by simp only [List.map_cons, optAll, h1]; rfl, by simp [PyData.canLayAll0, PyData.canLay0, jP, h2], by simp [PyData.depthAll, PyData.depth, jP, h3], by simp [PyData.eqv, jP]⟩
    | some n => exact ⟨by simp only [List.map_cons, optAll, h1]; rfl, by simp [PyData.canLayAll0, PyData.canLay0, jP, h2], by simp [PyData.depthAll, PyData.depth, jP, h3], by simp only [List.map_cons, List.any_cons, h4, jP, Option.isNone]; simp [PyData.eqv]⟩
theorem none_in (js : List (Option Nat)) : uInP false .non (.lst (js.map jU)) = some (.bl (js.any Option.isNone)) := by
  obtain ⟨h1, h2, h3, h4⟩ := @jP_all 58 js
  have e : toPU 60 (.lst (js.map jU)) = some (.list (js.map jP)) := by
    show (optAll (toPU 59) (js.map jU)).map PyData.list = _
    rw [h1]
    rfl
  have e0 : toPU 60 .non = some .none := rfl
  unfold uInP
  simp only [e, e0]
  rw [if_pos (by simp [SeqAt.shaped, PyData.canLay0, PyData.depth, h2, h3])]
  simp only [h4, Bool.false_eq_true, if_false]
theorem jns_any {k : Int} : ∀ ps : List U, ((ps.map (jn k)).any Option.isNone = true → jns k ps = none) ∧ ((ps.map (jn k)).any Option.isNone = false → ∃ s : Nat, jns k ps = some s ∧ intsU ((ps.map (jn k)).map jU) = some (((ps.map (jn k)).map fun j => ((j.getD 0 : Nat) : Int))) ∧ (((ps.map (jn k)).map fun j => ((j.getD 0 : Nat) : Int))).sum = (s : Int))
  | [] => ⟨fun h => (by cases h), fun _ => ⟨0, rfl, rfl, rfl⟩⟩
  | p :: ps => by
    obtain ⟨i1, i2⟩ := jns_any (k := k) ps
    simp only [List.map_cons, List.any_cons, jns]
    cases e : jn k p with
    | none => simp
    | some a =>
      simp only [Option.isNone, Bool.false_or]
      refine ⟨fun h => ?_, fun h => ?_⟩
      · have z := i1 (by simpa using h)
        simp [z]
      obtain ⟨s, h1, h2, h3⟩ := i2 (by simpa using h)
      refine ⟨a + s, by rw [h1], ?_, ?_⟩
      · simp only [List.map_cons, jU, intsU, h2]
        try rfl
      · simp only [List.map_cons, List.sum_cons, h3]
        simp
theorem fin_ok {k : Int} {inner : List U} {a b c d : Option U} : uIf (uCmp (uInP false) (.now (uC (.non))) (.now (uV 3))) (uC (.non)) (uBin uAdd (.now (uC (.int 1))) (.now (uUn uSum (.now (uV 3))))) [a, b, c, some (.lst ((inner.map (jn k)).map jU)), d] = .ok (jU ((jns k inner).map (1 + ·))) [a, b, c, some (.lst ((inner.map (jn k)).map jU)), d] := by
  obtain ⟨i1, i2⟩ := jns_any (k := k) inner
  have ni := none_in (inner.map (jn k))
  cases h : (inner.map (jn k)).any Option.isNone with
  | true =>
    rw [h] at ni
    rw [i1 h]
    have c1 : uCmp (uInP false) (.now (uC (.non))) (.now (uV 3)) [a, b, c, some (.lst ((inner.map (jn k)).map jU)), d] = .ok true [a, b, c, some (.lst ((inner.map (jn k)).map jU)), d] := cmp_ok rfl rfl ni
    simp only [uIf, c1, UQ.bind]
    rfl
  | false =>
    rw [h] at ni
    obtain ⟨s, h1, h2, h3⟩ := i2 h
    rw [h1]
    have c1 : uCmp (uInP false) (.now (uC (.non))) (.now (uV 3)) [a, b, c, some (.lst ((inner.map (jn k)).map jU)), d] = .ok false [a, b, c, some (.lst ((inner.map (jn k)).map jU)), d] := cmp_ok rfl rfl ni
    have us : uSum (.lst ((inner.map (jn k)).map jU)) = some (.int s) := by
      simp only [uSum, uList?, Option.bind_some, h2, Option.map_some, h3]
    have b1 : uBin uAdd (.now (uC (.int 1))) (.now (uUn uSum (.now (uV 3)))) [a, b, c, some (.lst ((inner.map (jn k)).map jU)), d] = .ok (.int (1 + s)) [a, b, c, some (.lst ((inner.map (jn k)).map jU)), d] := bin_ok rfl (un_ok rfl us) rfl
    simp only [uIf, c1, UQ.bind]
    refine b1.trans ?_
    simp [jU]
end P
namespace P
open PySem PySem.Spec PyProof.Rows L2 Z
/-- a whole number from 0 at 1, and so many parts -/
def jguard (c : Int) : UB := (uOrB (uCmp uNe (.now (uUn uLen (.now (uV 0)))) (.now (uC (.int c)))) (uOrB (uNotB (uOf (.now (uUn (uIsi itab [.ty "int"]) (.now (uBin uIx (.now (uV 0)) (.now (uC (.int 1))))))))) (uOrB (uOf (.now (uUn (uIsi itab [.ty "bool"]) (.now (uBin uIx (.now (uV 0)) (.now (uC (.int 1)))))))) (uCmp uLt (.now (uBin uIx (.now (uV 0)) (.now (uC (.int 1))))) (.now (uC (.int 0)))))))
theorem jguard_ok {c : Int} {w : Str} {a : U} {ps : List U} {e : UV} (h : wd a) : jguard c (some (.tup (.str w :: a :: ps)) :: e) = .ok (!(decide (((ps.length + 2 : Nat) : Int) = c) && whl a)) (some (.tup (.str w :: a :: ps)) :: e) := by
  have v0 : uV 0 (some (.tup (.str w :: a :: ps)) :: e) = .ok (.tup (.str w :: a :: ps)) (some (.tup (.str w :: a :: ps)) :: e) := rfl
  have x1 : uBin uIx (.now (uV 0)) (.now (uC (.int 1))) (some (.tup (.str w :: a :: ps)) :: e) = .ok a (some (.tup (.str w :: a :: ps)) :: e) := bin_ok rfl rfl ix1
  have c1 : uCmp uNe (.now (uUn uLen (.now (uV 0)))) (.now (uC (.int c))) (some (.tup (.str w :: a :: ps)) :: e) = .ok (!(((ps.length + 2 : Nat) : Int) == c)) (some (.tup (.str w :: a :: ps)) :: e) := cmp_ok (un_ok v0 len_t) rfl neI
  by_cases hl : ((ps.length + 2 : Nat) : Int) = c
  · rw [beq_iff_eq.mpr hl] at c1
    rw [decide_eq_true hl, Bool.true_and]
    refine or_no c1 ?_
    have ti : ∀ (b : Bool), uIsi itab [.ty "int"] a = some (.bl b) → uNotB (uOf (.now (uUn (uIsi itab [.ty "int"]) (.now (uBin uIx (.now (uV 0)) (.now (uC (.int 1)))))))) (some (.tup (.str w :: a :: ps)) :: e) = .ok (!b) (some (.tup (.str w :: a :: ps)) :: e) := fun b hb => not_b (of_bl (un_ok x1 hb))
    have tb : ∀ (b : Bool), uIsi itab [.ty "bool"] a = some (.bl b) → uOf (.now (uUn (uIsi itab [.ty "bool"]) (.now (uBin uIx (.now (uV 0)) (.now (uC (.int 1))))))) (some (.tup (.str w :: a :: ps)) :: e) = .ok b (some (.tup (.str w :: a :: ps)) :: e) := fun b hb => of_bl (un_ok x1 hb)
    cases a with
    | fl _ => exact h.elim
    | exc _ _ => exact h.elim
    | int i =>
      refine or_no (ti true rfl) (or_no (tb false rfl) ?_)
      have : (!whl (.int i)) = decide (i < 0) := by
        simp only [whl]
        by_cases z : i < 0
        · rw [decide_eq_true z, decide_eq_false (by omega)]; rfl
        · rw [decide_eq_false z, decide_eq_true (by omega)]; rfl
      rw [this]
      exact cmp_ok x1 rfl rfl
    | bl b => exact or_no (ti true rfl) (or_yes (tb true rfl))
    | non => exact or_yes (ti false rfl)
    | str _ => exact or_yes (ti false rfl)
    | tup _ => exact or_yes (ti false rfl)
    | lst _ => exact or_yes (ti false rfl)
    | emp => exact or_yes (ti false rfl)
  · rw [beq_eq_false_iff_ne.mpr hl] at c1
    rw [decide_eq_false hl, Bool.false_and]
    exact or_yes c1
theorem inWR {w : Str} (h : PyData.strOk w = true) {a r hh m : Bool} (q : Kd w a r hh m) : uInP false (.str w) (.tup [.str "work", .str "rest"]) = some (.bl (a || r)) := inS2 h strOk_wk strOk_rest (by
  rw [← q.a, ← q.r]
  rw [show (("work" : Str) == w) = (w == "work") from by rw [Bool.eq_iff_iff, beq_iff_eq, beq_iff_eq]; exact eq_comm, show (("rest" : Str) == w) = (w == "rest") from by rw [Bool.eq_iff_iff, beq_iff_eq, beq_iff_eq]; exact eq_comm])
theorem notInM {w : Str} (h : PyData.strOk w = true) : uInP true (.str w) (.tup [.str "after", .str "last", .str "first"]) = some (.bl (!mW w)) := by
  have e := inM h
  unfold uInP at e ⊢
  revert e
  split
  · intro e
    split at e
    · rename_i hz
      rw [if_pos hz]
      simp only [Bool.false_eq_true, if_false, Option.some.injEq, U.bl.injEq] at e
      simp only [if_true, e]
    · cases e
  · intro e
    split at e
    · rename_i hz
      rw [if_pos hz]
      simp only [Bool.false_eq_true, if_false, Option.some.injEq, U.bl.injEq] at e
      simp only [if_true, e]
    · cases e
  · intro e; cases e
section
variable {k : Int} {n : Nat}
/-- the count of the parts -/
theorem comp_joins {inner : List U} {x0 : U} {b : Option U} (hl : inner.length ≤ 50000) (h : ∀ p, p ∈ inner → ∃ r, uf__law_joins n [p, .int k] = .ok (jU (jn k p)) r) :
    uSeq (uSet 3 (uLc (uSq (uV 2)) (.nm 4) [4] (uTrue) (uCall [0, 1] [] [.val (uV 4), .val (uV 1)] [] (uf__law_joins n)))) (uSeq (uReturn (uIf (uCmp (uInP false) (.now (uC (.non))) (.now (uV 3))) (uC (.non)) (uBin uAdd (.now (uC (.int 1))) (.now (uUn uSum (.now (uV 3))))))) (uNop)) [some x0, some (.int k), some (.tup inner), b, none]
    = .ret (jU ((jns k inner).map (1 + ·))) [some x0, some (.int k), some (.tup inner), some (.lst ((inner.map (jn k)).map jU)), none] := by
  have c := lc_map (i := 4) (el := uCall [0, 1] [] [.val (uV 4), .val (uV 1)] [] (uf__law_joins n)) (e := [some x0, some (.int k), some (.tup inner), b, none]) (fun p => p) (fun p => jU (jn k p)) rfl inner [] (by simp; omega) fun p hp => by
    obtain ⟨r, e⟩ := h p hp
    exact call2v (f := uV 4) (g := uV 1) (a := p) (b := .int k) rfl rfl e
  rw [List.map_id'] at c
  have e1 : inner.map (fun p => jU (jn k p)) = (inner.map (jn k)).map jU := by rw [List.map_map]; rfl
  rw [List.nil_append, e1] at c
  exact seq_nx (set_ok (lc_ok2 (sq_tup rfl) c)) (seq_rt (ret_ok fin_ok))
end
end P
namespace P
open PySem PySem.Spec PyProof.Rows L2 Z
section
variable {k : Int} {n : Nat}
def jC1 : UB := (uOrB (uNotB (uOf (.now (uUn (uIsi itab [.ty "tuple"]) (.now (uV 0)))))) (uOrB (uCmp uEq0 (.now (uV 0)) (.now (uTup (uNil)))) (uNotB (uOf (.now (uUn (uIsi itab [.ty "str"]) (.now (uBin uIx (.now (uV 0)) (.now (uC (.int 0)))))))))))
theorem jC1_no {w : Str} {ps : List U} {e : UV} : jC1 (some (.tup (.str w :: ps)) :: e) = .ok false (some (.tup (.str w :: ps)) :: e) :=
  or_no (not_b (b := true) (of_bl (un_ok rfl rfl))) (or_no (cmp_ok rfl (tup_ok nil_ok2 (by simp)) rfl) (not_b (b := true) (of_bl (un_ok (bin_ok rfl rfl ix0) rfl))))
theorem jC1_yes {x : U} {e : UV} (h : wd x) (hx : ∀ w ps, x ≠ .tup (.str w :: ps)) : jC1 (some x :: e) = .ok true (some x :: e) := by
  have nt : uIsi itab [.ty "tuple"] x = some (.bl false) → jC1 (some x :: e) = .ok true (some x :: e) := fun hb => or_yes (not_b (b := false) (of_bl (un_ok rfl hb)))
  cases x with
  | fl _ => exact h.elim
  | exc _ _ => exact h.elim
  | non => exact nt rfl
  | bl b => exact nt rfl
  | int i => exact nt rfl
  | str i => exact nt rfl
  | lst i => exact nt rfl
  | emp => exact nt rfl
  | tup xs =>
    refine or_no (not_b (b := true) (of_bl (un_ok rfl rfl))) ?_
    cases xs with
    | nil => exact or_yes (cmp_ok rfl (tup_ok nil_ok2 (by simp)) rfl)
    | cons y ys =>
      refine or_no (cmp_ok rfl (tup_ok nil_ok2 (by simp)) rfl) ?_
      have hy := h.1
      have ns : uIsi itab [.ty "str"] y = some (.bl false) → uNotB (uOf (.now (uUn (uIsi itab [.ty "str"]) (.now (uBin uIx (.now (uV 0)) (.now (uC (.int 0)))))))) (some (.tup (y :: ys)) :: e) = .ok true (some (.tup (y :: ys)) :: e) := fun hb => not_b (b := false) (of_bl (un_ok (bin_ok rfl rfl ix0) hb))
      cases y with
      | fl _ => exact hy.elim
      | exc _ _ => exact hy.elim
      | str w => exact absurd rfl (hx w ys)
      | non => exact ns rfl
      | bl b => exact ns rfl
      | int i => exact ns rfl
      | lst i => exact ns rfl
      | emp => exact ns rfl
      | tup i => exact ns rfl
theorem jguard_short {c : Int} {w : Str} {e : UV} (hc : c ≠ 1) : jguard c (some (.tup [.str w]) :: e) = .ok true (some (.tup [.str w]) :: e) := by
  have c1 : uCmp uNe (.now (uUn uLen (.now (uV 0)))) (.now (uC (.int c))) (some (.tup [.str w]) :: e) = .ok (!(((1 : Nat) : Int) == c)) (some (.tup [.str w]) :: e) := cmp_ok (un_ok rfl len_t) rfl neI
  have b : (((1 : Nat) : Int) == c) = false := beq_eq_false_iff_ne.mpr (fun z => hc z.symm)
  rw [b] at c1
  exact or_yes c1
def jC4 : UB := (uOrB (uCmp (uInP true) (.now (uBin uIx (.now (uV 0)) (.now (uC (.int 0))))) (.now (uTup (uCons (uC (.str "after")) (uCons (uC (.str "last")) (uCons (uC (.str "first")) (uNil))))))) (uNotB (uBl (uChain uLe uLe (uC (.int 3)) (uUn uLen (.now (uV 0))) (uC (.int 5))))))
theorem tupM {e : UV} : uTup (uCons (uC (.str "after")) (uCons (uC (.str "last")) (uCons (uC (.str "first")) (uNil)))) e = .ok (.tup [.str "after", .str "last", .str "first"]) e := rfl
theorem tupH {e : UV} : uTup (uCons (uC (.str "not_before")) (uCons (uC (.str "given_up")) (uNil))) e = .ok (.tup [.str "not_before", .str "given_up"]) e := rfl
theorem tupW {e : UV} : uTup (uCons (uC (.str "work")) (uCons (uC (.str "rest")) (uNil))) e = .ok (.tup [.str "work", .str "rest"]) e := rfl
theorem jC4_ok {w : Str} {ps : List U} {e : UV} (hw : PyData.strOk w = true) : jC4 (some (.tup (.str w :: ps)) :: e) = .ok (!(mW w && (decide (2 ≤ ps.length) && decide (ps.length ≤ 4)))) (some (.tup (.str w :: ps)) :: e) := by
  have c1 : uCmp (uInP true) (.now (uBin uIx (.now (uV 0)) (.now (uC (.int 0))))) (.now (uTup (uCons (uC (.str "after")) (uCons (uC (.str "last")) (uCons (uC (.str "first")) (uNil)))))) (some (.tup (.str w :: ps)) :: e) = .ok (!mW w) (some (.tup (.str w :: ps)) :: e) := cmp_ok (bin_ok rfl rfl ix0) tupM (notInM hw)
  have l3 : decide (3 ≤ ((ps.length + 1 : Nat) : Int)) = decide (2 ≤ ps.length) := by congr 1; apply propext; omega
  have l5 : decide (((ps.length + 1 : Nat) : Int) ≤ 5) = decide (ps.length ≤ 4) := by congr 1; apply propext; omega
  cases hm : mW w with
  | false => rw [hm] at c1; exact or_yes c1
  | true =>
    rw [hm] at c1
    have ch : uChain uLe uLe (uC (.int 3)) (uUn uLen (.now (uV 0))) (uC (.int 5)) (some (.tup (.str w :: ps)) :: e) = .ok (.bl (decide (2 ≤ ps.length) && decide (ps.length ≤ 4))) (some (.tup (.str w :: ps)) :: e) := by
      rw [← l3, ← l5]
      exact chain_bb rfl (un_ok rfl len_t) rfl fun _ => ⟨rfl, rfl⟩
    refine or_no c1 ?_
    rw [Bool.true_and]
    refine not_b ?_
    simp only [uBl, ch, UQ.bind, uBool]
    try rfl
theorem slice1 {w : Str} {ps : List U} {e : UV} : uSl (.now (uV 0)) (uInt1 (uC (.int 1))) (uC .non) (some (.tup (.str w :: ps)) :: e) = .ok (.tup ps) (some (.tup (.str w :: ps)) :: e) := by
  simp [uSl, uInt1, uPart, uSlc, cutL, HT.sIx, uC, uV, uBin, uUn, uNil, uCons, uTup, uLst, uIf, uCall, uArgs, Z.fill, Arg.get, wbk, pick, Opd.run, Opd.get, UQ.bind, uRet, uSeq, uSet, uEx, uReturn, uIfS, US.then, UQ.s, uCmp, uBool, uOf, uAndB, uOrB, uNotB, uTrue, uTruth, uSub, uPar, uRun, uRunF, uAdd, uSub2, uDiv, uMod, uPow, uNeg, uCmpI, uIx, uLen, uAbs, uToInt, uTuple, uItems, uNop, L2.atI, L2.ixN, List.replicate]
theorem slice2 {w : Str} {a : U} {ps : List U} {e : UV} : uSl (.now (uV 0)) (uInt1 (uC (.int 2))) (uC .non) (some (.tup (.str w :: a :: ps)) :: e) = .ok (.tup ps) (some (.tup (.str w :: a :: ps)) :: e) := by
  simp [uSl, uInt1, uPart, uSlc, cutL, HT.sIx, uC, uV, uBin, uUn, uNil, uCons, uTup, uLst, uIf, uCall, uArgs, Z.fill, Arg.get, wbk, pick, Opd.run, Opd.get, UQ.bind, uRet, uSeq, uSet, uEx, uReturn, uIfS, US.then, UQ.s, uCmp, uBool, uOf, uAndB, uOrB, uNotB, uTrue, uTruth, uSub, uPar, uRun, uRunF, uAdd, uSub2, uDiv, uMod, uPow, uNeg, uCmpI, uIx, uLen, uAbs, uToInt, uTuple, uItems, uNop, L2.atI, L2.ixN, List.replicate]
end
end P
namespace P
open PySem PySem.Spec PyProof.Rows L2 Z
section
variable {k : Int} {n : Nat}
abbrev Ej (T : U) (k : Int) : UV := [some T, some (.int k), none, none, none]
theorem jn_bad {x : U} (hx : ∀ w ps, x ≠ .tup (.str w :: ps)) : jn k x = none := by
  cases e : jn k x with
  | none => rfl
  | some s =>
    obtain ⟨w, a, ps, z, _⟩ := jn_form e
    exact absurd z (hx w _)
theorem joins_step {x : U} (hw : wd x) (h : ∀ p, wd p → dep p < n → sz p ≤ sz x → ∃ r, uf__law_joins n [p, .int k] = .ok (jU (jn k p)) r) (hd : dep x < n + 1) (hl : ∀ xs, x = .tup xs → xs.length ≤ 50000) : ∃ r, uf__law_joins (n + 1) [x, .int k] = .ok (jU (jn k x)) r := by
  by_cases hx : ∃ w ps, x = .tup (.str w :: ps)
  · obtain ⟨w, ps, rfl⟩ := hx
    have ok := hw.1
    have len := hl _ rfl
    have g1 := @jC1_no w ps [some (.int k), none, none, none]
    simp only [dep, deps] at hd
    cases ps with
    | nil =>
      have e : jn k (.tup [.str w]) = none := by simp [jn, jt]
      rw [e]
      rcases kinds w with q | q | q | q | q
      · exact ⟨_, run_rt (e2 := Ej (.tup [.str w]) k) rfl (seq_nx (if_no g1 rfl) (seq_rt (if_yes (cmp_ok (bin_ok rfl rfl ix0) tupW (inWR ok q)) (seq_rt (if_yes (jguard_short (by decide)) (seq_rt (ret_ok rfl)))))))⟩
      · exact ⟨_, run_rt (e2 := Ej (.tup [.str w]) k) rfl (seq_nx (if_no g1 rfl) (seq_rt (if_yes (cmp_ok (bin_ok rfl rfl ix0) tupW (inWR ok q)) (seq_rt (if_yes (jguard_short (by decide)) (seq_rt (ret_ok rfl)))))))⟩
      · exact ⟨_, run_rt rfl (seq_nx (if_no g1 rfl) (seq_nx (if_no (cmp_ok (bin_ok rfl rfl ix0) tupW (inWR ok q)) rfl) (seq_nx (set_ok slice1) (seq_rt (if_yes (cmp_ok (bin_ok rfl rfl ix0) tupH ((inH ok).trans (by rw [q.h]))) (seq_rt (if_yes (jguard_short (by decide)) (seq_rt (ret_ok rfl)))))))))⟩
      all_goals
        have c4 := @jC4_ok w [] [some (.int k), some (.tup []), none, none] ok
        have z : (!(mW w && (decide (2 ≤ ([] : List U).length) && decide (([] : List U).length ≤ 4)))) = true := by cases mW w <;> rfl
        rw [z] at c4
        exact ⟨_, run_rt rfl (seq_nx (if_no g1 rfl) (seq_nx (if_no (cmp_ok (bin_ok rfl rfl ix0) tupW (inWR ok q)) rfl) (seq_nx (set_ok slice1) (seq_rt (if_no (cmp_ok (bin_ok rfl rfl ix0) tupH ((inH ok).trans (by rw [q.h]))) (seq_rt (if_yes c4 (seq_rt (ret_ok rfl)))))))))⟩
    | cons a ps =>
      have wa : wd a := hw.2.1
      have wp : wds ps := hw.2.2
      simp only [deps] at hd
      simp only [List.length_cons] at len
      have ej : jn k (.tup (.str w :: a :: ps)) = comb k w a ps.length (jn k a) (jns k ps) := by simp only [jn, jt]
      rw [ej]
      have lz : decide (((ps.length + 2 : Nat) : Int) = 2) = decide (ps.length = 0) := by congr 1; apply propext; omega
      have lo : decide (((ps.length + 2 : Nat) : Int) = 3) = decide (ps.length = 1) := by congr 1; apply propext; omega
      have leaf : ∀ (av rv : Bool), Kd w av rv false false → (av || rv) = true → ∃ r, uf__law_joins (n + 1) [.tup (.str w :: a :: ps), .int k] = .ok (jU (comb k w a ps.length (jn k a) (jns k ps))) r := fun av rv q hor => by
        have g2 := @jguard_ok 2 w a ps [some (.int k), none, none, none] wa
        rw [lz] at g2
        have iw := (inWR ok q).trans (by rw [hor])
        by_cases hg : (decide (ps.length = 0) && whl a) = true
        · rw [hg] at g2
          simp only [Bool.and_eq_true, decide_eq_true_eq] at hg
          obtain ⟨h0, h1⟩ := hg
          cases a with
          | int i =>
            have c0 : uCmp uEq (.now (uBin uIx (.now (uV 0)) (.now (uC (.int 0))))) (.now (uC (.str "rest"))) (Ej (.tup (.str w :: .int i :: ps)) k) = .ok rv (Ej (.tup (.str w :: .int i :: ps)) k) := cmp_ok (bin_ok rfl rfl ix0) rfl (eqW q.r)
            have c2 : uCmp uLt (.now (uBin uIx (.now (uV 0)) (.now (uC (.int 1))))) (.now (uV 1)) (Ej (.tup (.str w :: .int i :: ps)) k) = .ok (decide (i < k)) (Ej (.tup (.str w :: .int i :: ps)) k) := cmp_ok (bin_ok rfl rfl ix1) rfl rfl
            have ans : uIf (uOrB (uCmp uEq (.now (uBin uIx (.now (uV 0)) (.now (uC (.int 0))))) (.now (uC (.str "rest")))) (uCmp uLt (.now (uBin uIx (.now (uV 0)) (.now (uC (.int 1))))) (.now (uV 1)))) (uC (.int 0)) (uC (.non)) (Ej (.tup (.str w :: .int i :: ps)) k) = .ok (jU (comb k w (.int i) ps.length (jn k (.int i)) (jns k ps))) (Ej (.tup (.str w :: .int i :: ps)) k) := by
              cases rv with
              | true =>
                have : (w == ("work" : Str)) = false := by
                  rw [beq_eq_false_iff_ne]
                  intro z
                  have := q.r
                  rw [z] at this
                  revert this
                  decide +kernel
                simp only [uIf, or_yes c0, UQ.bind, comb, this, q.r, h0, h1]
                rfl
              | false =>
                have av1 : av = true := by simpa using hor
                subst av1
                by_cases hb : i < k
                · rw [decide_eq_true hb] at c2
                  simp only [uIf, or_no c0 c2, UQ.bind, comb, q.a, h0, h1, bel, decide_eq_true hb]
                  rfl
                · rw [decide_eq_false hb] at c2
                  simp only [uIf, or_no c0 c2, UQ.bind, comb, q.a, h0, h1, bel, decide_eq_false hb]
                  rfl
            exact ⟨_, run_rt rfl (seq_nx (if_no g1 rfl) (seq_rt (if_yes (cmp_ok (bin_ok rfl rfl ix0) tupW iw) (seq_nx (if_no g2 rfl) (seq_rt (ret_ok ans))))))⟩
          | _ => simp [whl] at h1
        · have hg2 : (decide (ps.length = 0) && whl a) = false := by simpa using hg
          rw [hg2] at g2
          have e : comb k w a ps.length (jn k a) (jns k ps) = none := by
            unfold comb
            rcases Bool.eq_false_or_eq_true av with z | z
            · have := q.a; rw [z] at this
              rw [this, if_pos rfl, if_neg]
              rintro ⟨z1, z2, _⟩
              rw [z1, z2] at hg2; cases hg2
            · have h1 := q.a; rw [z] at h1
              have h2 := q.r
              rw [z, Bool.false_or] at hor
              rw [hor] at h2
              rw [h1, h2, if_neg (by simp), if_pos rfl, if_neg]
              rintro ⟨z1, z2⟩
              rw [z1, z2] at hg2; cases hg2
          rw [e]
          exact ⟨_, run_rt (e2 := Ej (.tup (.str w :: a :: ps)) k) rfl (seq_nx (if_no g1 rfl) (seq_rt (if_yes (cmp_ok (bin_ok rfl rfl ix0) tupW iw) (seq_rt (if_yes g2 (seq_rt (ret_ok rfl)))))))⟩
      rcases kinds w with q | q | q | q | q
      · exact leaf true false q rfl
      · exact leaf false true q rfl
      · have g2 := @jguard_ok 3 w a ps [some (.int k), some (.tup (a :: ps)), none, none] wa
        rw [lo] at g2
        have ec : comb k w a ps.length (jn k a) (jns k ps) = if ps.length = 1 ∧ whl a = true then (jns k ps).map (1 + ·) else none := by
          simp only [comb, q.a, q.r, q.h]; rfl
        rw [ec]
        by_cases hg : (decide (ps.length = 1) && whl a) = true
        · rw [hg] at g2
          simp only [Bool.and_eq_true, decide_eq_true_eq] at hg
          rw [if_pos hg]
          have cj := comp_joins (k := k) (n := n) (inner := ps) (x0 := .tup (.str w :: a :: ps)) (b := none) (by omega) fun p hp => h p (wds_mem wp hp) (by have := deps_mem hp; omega) (by have := szs_mem hp; simp only [sz, szs]; omega)
          exact ⟨_, run_rt rfl (seq_nx (if_no g1 rfl) (seq_nx (if_no (cmp_ok (bin_ok rfl rfl ix0) tupW (inWR ok q)) rfl) (seq_nx (set_ok slice1) (seq_nx (if_yes (cmp_ok (bin_ok rfl rfl ix0) tupH ((inH ok).trans (by rw [q.h]))) (seq_nx (if_no g2 rfl) (seq_nx (set_ok slice2) rfl))) cj))))⟩
        · have hg2 : (decide (ps.length = 1) && whl a) = false := by simpa using hg
          rw [hg2] at g2
          rw [if_neg (fun z => hg (by rw [z.1, z.2]; rfl))]
          exact ⟨_, run_rt rfl (seq_nx (if_no g1 rfl) (seq_nx (if_no (cmp_ok (bin_ok rfl rfl ix0) tupW (inWR ok q)) rfl) (seq_nx (set_ok slice1) (seq_rt (if_yes (cmp_ok (bin_ok rfl rfl ix0) tupH ((inH ok).trans (by rw [q.h]))) (seq_rt (if_yes g2 (seq_rt (ret_ok rfl)))))))))⟩
      all_goals
        have c4 := @jC4_ok w (a :: ps) [some (.int k), some (.tup (a :: ps)), none, none] ok
        rw [q.m] at c4
      · have ec : comb k w a ps.length (jn k a) (jns k ps) = if 1 ≤ ps.length ∧ ps.length ≤ 3 then (jns k (a :: ps)).map (1 + ·) else none := by
          simp only [comb, q.a, q.r, q.h, q.m, jns]
          by_cases hc : 1 ≤ ps.length ∧ ps.length ≤ 3
          · rw [if_pos hc]
            simp only [hc]
            cases jn k a <;> cases jns k ps <;> simp
          · rw [if_neg hc]
            simp [hc]
        rw [ec]
        by_cases hc : 1 ≤ ps.length ∧ ps.length ≤ 3
        · rw [if_pos hc]
          have z : (!(true && (decide (2 ≤ (a :: ps).length) && decide ((a :: ps).length ≤ 4)))) = false := by
            rw [decide_eq_true (by simp only [List.length_cons]; omega), decide_eq_true (by simp only [List.length_cons]; omega)]; rfl
          rw [z] at c4
          have cj := comp_joins (k := k) (n := n) (inner := a :: ps) (x0 := .tup (.str w :: a :: ps)) (b := none) (by simp only [List.length_cons]; omega) fun p hp => h p (wds_mem (xs := a :: ps) ⟨wa, wp⟩ hp) (by have := deps_mem hp; simp only [deps] at this; omega) (by have := szs_mem hp; simp only [szs] at this; simp only [sz, szs]; omega)
          exact ⟨_, run_rt rfl (seq_nx (if_no g1 rfl) (seq_nx (if_no (cmp_ok (bin_ok rfl rfl ix0) tupW (inWR ok q)) rfl) (seq_nx (set_ok slice1) (seq_nx (if_no (cmp_ok (bin_ok rfl rfl ix0) tupH ((inH ok).trans (by rw [q.h]))) (seq_nx (if_no c4 rfl) rfl)) cj))))⟩
        · rw [if_neg hc]
          have z : (!(true && (decide (2 ≤ (a :: ps).length) && decide ((a :: ps).length ≤ 4)))) = true := by
            by_cases h1 : 1 ≤ ps.length
            · rw [decide_eq_true (by simp only [List.length_cons]; omega), decide_eq_false (by simp only [List.length_cons]; omega)]; rfl
            · rw [decide_eq_false (by simp only [List.length_cons]; omega)]; rfl
          rw [z] at c4
          exact ⟨_, run_rt rfl (seq_nx (if_no g1 rfl) (seq_nx (if_no (cmp_ok (bin_ok rfl rfl ix0) tupW (inWR ok q)) rfl) (seq_nx (set_ok slice1) (seq_rt (if_no (cmp_ok (bin_ok rfl rfl ix0) tupH ((inH ok).trans (by rw [q.h]))) (seq_rt (if_yes c4 (seq_rt (ret_ok rfl)))))))))⟩
      · have ec : comb k w a ps.length (jn k a) (jns k ps) = none := by
          simp [comb, q.a, q.r, q.h, q.m]
        rw [ec]
        exact ⟨_, run_rt rfl (seq_nx (if_no g1 rfl) (seq_nx (if_no (cmp_ok (bin_ok rfl rfl ix0) tupW (inWR ok q)) rfl) (seq_nx (set_ok slice1) (seq_rt (if_no (cmp_ok (bin_ok rfl rfl ix0) tupH ((inH ok).trans (by rw [q.h]))) (seq_rt (if_yes c4 (seq_rt (ret_ok rfl)))))))))⟩
  · have hx' : ∀ w ps, x ≠ .tup (.str w :: ps) := fun w ps z => hx ⟨w, ps, z⟩
    rw [jn_bad hx']
    exact ⟨_, run_rt (e2 := Ej x k) rfl (seq_rt (if_yes (jC1_yes hw hx') (seq_rt (ret_ok rfl))))⟩
end
end P
namespace P
open PySem PySem.Spec PyProof.Rows L2 Z
mutual
def pd : U → PyData
  | .non => .none
  | .bl b => .bool b
  | .int i => .int i
  | .str x => .str x
  | .tup xs => .tuple (pds xs)
  | .lst xs => .list (pds xs)
  | .emp => .dict []
  | .fl _ => .none
  | .exc _ _ => .none
def pds : List U → List PyData
  | [] => []
  | x :: xs => pd x :: pds xs
end
mutual
theorem pd_ok : ∀ (x : U), wd x → (∀ n, dep x < n → toPU n x = some (pd x)) ∧ (pd x).showable = true ∧ (pd x).depth = dep x ∧ (pd x).leavesShort 61 = true ∧ (pd x).bulk = sz x
  | .non, _ => ⟨fun n h => (by obtain ⟨m, rfl⟩ : ∃ m, n = m + 1 := ⟨n - 1, by omega⟩; rfl), rfl, rfl, rfl, rfl⟩
  | .bl _, _ => ⟨fun n h => (by obtain ⟨m, rfl⟩ : ∃ m, n = m + 1 := ⟨n - 1, by omega⟩; rfl), rfl, rfl, rfl, rfl⟩
  | .str x, hw => ⟨fun n h => (by obtain ⟨m, rfl⟩ : ∃ m, n = m + 1 := ⟨n - 1, by omega⟩; rfl), rfl, rfl, PyData.leavesShort_of_canLay0 61 (.str x) hw rfl, rfl⟩
  | .int i, hw => by
    have h1 : i.natAbs.log2 ≤ 59 := log_le (k := 59) hw
    refine ⟨fun n h => (by obtain ⟨m, rfl⟩ : ∃ m, n = m + 1 := ⟨n - 1, by omega⟩; rfl), ?_, rfl, ?_, rfl⟩
    · simp only [pd, PyData.showable, decide_eq_true_eq]
      omega
    · have e := int_text_length_le (a := i) (k := 60) (by decide) (by omega)
      have e2 : (PyData.int i).shown.length ≤ 61 := by
        show (Str.ofString (toString i)).length ≤ 61
        rw [PySem.ofString_length]
        exact e
      exact decide_eq_true e2
  | .emp, _ => ⟨fun n h => (by obtain ⟨m, rfl⟩ : ∃ m, n = m + 1 := ⟨n - 1, by omega⟩; rfl), rfl, rfl, rfl, rfl⟩
  | .fl _, h => h.elim
  | .exc _ _, h => h.elim
  | .tup xs, hw => by
    obtain ⟨h1, h2, h3, h4, h5⟩ := pds_ok xs hw
    refine ⟨fun n h => ?_, by simpa only [pd, PyData.showable] using h2, by simp only [pd, PyData.depth, dep, h3], by simpa only [pd, PyData.leavesShort] using h4, by simp only [pd, PyData.bulk, sz, h5]⟩
    simp only [dep] at h
    obtain ⟨m, rfl⟩ : ∃ m, n = m + 1 := ⟨n - 1, by omega⟩
    show (optAll (toPU m) xs).map PyData.tuple = _
    rw [h1 m (by omega)]
    rfl
  | .lst xs, hw => by
    obtain ⟨h1, h2, h3, h4, h5⟩ := pds_ok xs hw
    refine ⟨fun n h => ?_, by simpa only [pd, PyData.showable] using h2, by simp only [pd, PyData.depth, dep, h3], by simpa only [pd, PyData.leavesShort] using h4, by simp only [pd, PyData.bulk, sz, h5]⟩
    simp only [dep] at h
    obtain ⟨m, rfl⟩ : ∃ m, n = m + 1 := ⟨n - 1, by omega⟩
    show (optAll (toPU m) xs).map PyData.list = _
    rw [h1 m (by omega)]
    rfl
theorem pds_ok : ∀ (xs : List U), wds xs → (∀ n, deps xs < n → optAll (toPU n) xs = some (pds xs)) ∧ PyData.showableAll (pds xs) = true ∧ PyData.depthAll (pds xs) = deps xs ∧ PyData.leavesShortAll 61 (pds xs) = true ∧ PyData.bulkAll (pds xs) = szs xs
  | [], _ => ⟨fun _ _ => rfl, rfl, rfl, rfl, rfl⟩
  | x :: xs, hw => by
    obtain ⟨h1, h2, h3, h4, h5⟩ := pd_ok x hw.1
    obtain ⟨g1, g2, g3, g4, g5⟩ := pds_ok xs hw.2
    refine ⟨fun n h => ?_, by simp only [pds, PyData.showableAll, h2, g2, Bool.and_self], by simp only [pds, PyData.depthAll, deps, h3, g3], by simp only [pds, PyData.leavesShortAll, h4, g4, Bool.and_self], by simp only [pds, PyData.bulkAll, szs, h5, g5]⟩
    simp only [deps] at h
    simp only [optAll, h1 n (by omega), g1 n (by omega), pds]
end
/-- a thing that is neither deep nor great -/
structure Th (d c : Nat) (x : U) : Prop where
  w : wd x
  d : dep x ≤ d
  c : sz x ≤ c
theorem repr_ok {x : U} (h : Th 38 200000 x) : ∃ s, uRepr2 x = some (.str s) := by
  obtain ⟨h1, h2, h3, h4, h5⟩ := pd_ok x h.w
  have hd := h.d
  have hc := h.c
  have e := h1 40 (by omega)
  have l := PyData.shown_le_bulk 61 (by decide) (pd x) h4
  have l2 : (pd x).shown.length ≤ sizeLine := by
    show _ ≤ 16777216
    rw [h5] at l
    omega
  have l3 : (pd x).depth ≤ 60 := by omega
  refine ⟨(pd x).shown, ?_⟩
  unfold uRepr2
  rw [e]
  dsimp only
  rw [if_pos (by rw [h2, decide_eq_true l2, decide_eq_true l3]; rfl)]
theorem joins_ok {k : Int} : ∀ (n : Nat) (x : U), wd x → sz x ≤ 50000 → dep x < n → ∃ r, uf__law_joins n [x, .int k] = .ok (jU (jn k x)) r
  | 0, _, _, _, h => absurd h (Nat.not_lt_zero _)
  | n + 1, x, hw, hs, hd => joins_step hw (fun p h1 h2 h3 => joins_ok n p h1 (by omega) h2) hd fun xs z => by
    subst z
    have := szs_len xs
    simp only [sz] at hs
    omega
theorem due_ok {k : Int} {x : U} (h : Th 38 50000 x) : ∃ r, uf__law_due [x, .int k] = .ok (.bl (net? k x)) r := by
  obtain ⟨r, e⟩ := joins_ok (k := k) 60 x h.w h.c (by have := h.d; omega)
  have c : uCall [0, 1] [] [.val (uV 0), .val (uV 1)] [] (uf__law_joins fuel__law_joins) [some x, some (.int k), none] = .ok (jU (jn k x)) [some x, some (.int k), none] := call2v rfl rfl e
  refine ⟨[some x, some (.int k), some (jU (jn k x))], run_rt rfl (seq_nx (set_ok c) (seq_rt (ret_ok ?_)))⟩
  · show uAnd _ _ [some x, some (.int k), some (jU (jn k x))] = _
    unfold net?
    cases jn k x with
    | none => rfl
    | some s =>
      have : decide (s ≤ 12) = (true && decide ((s : Int) ≤ 12)) := by rw [Bool.true_and]; congr 1; apply propext; omega
      dsimp only
      rw [this]
      exact and_bb rfl fun _ => bin_ok rfl rfl rfl
theorem repr_bb {a b : Bool} : ∃ s, uRepr2 (.lst [.bl a, .bl b]) = some (.str s) := repr_ok ⟨⟨trivial, trivial, trivial⟩, by simp [dep, deps], by simp [sz, szs]⟩
theorem str_same {s : Str} : uEq (.str s) (.str s) = some (.bl true) := by
  show some (U.bl (s == s)) = _
  rw [beq_self_eq_true]
/-- the law's question has the right answer -/
theorem asked_ok {k : Int} {x : U} (h : Th 38 50000 x) : ∃ r, uf__law_asked_right [x, .int k] = .ok (.bl true) r := by
  obtain ⟨r1, e1⟩ := due_ok (k := k) h
  obtain ⟨r2, e2⟩ := is_net_ok (k := k) h.w
  obtain ⟨s, e3⟩ := repr_ok ⟨h.w, h.d, Nat.le_trans h.c (by decide)⟩
  obtain ⟨t, e4⟩ := @repr_bb (net? k x) (net? k x)
  have c1 : uCall [0, 1] [] [.val (uV 0), .val (uV 1)] [] uf__law_due [some x, some (.int k), none, none, none] = .ok (.bl (net? k x)) [some x, some (.int k), none, none, none] := call2v rfl rfl e1
  have c2 : uCall [0, 1] [] [.val (uV 0), .val (uV 1)] [] uf_is_net [some x, some (.int k), some (.str s), some (.bl (net? k x)), none] = .ok (.bl (net? k x)) [some x, some (.int k), some (.str s), some (.bl (net? k x)), none] := call2v rfl rfl e2
  refine ⟨[some x, some (.int k), some (.str s), some (.bl (net? k x)), some (.lst [.bl (net? k x), .bl (net? k x)])], run_rt rfl (seq_nx (par_vv (un_ok rfl e3) c1) (seq_nx (set_ok (lst_ok (Z.cons_ok c2 (Z.cons_ok c2 nil_ok2)) (by simp))) (seq_rt (ret_ok ?_))))⟩
  exact and_bb (a := true) (b := true) (bin_ok (un_ok rfl e4) (un_ok (lst_ok (Z.cons_ok rfl (Z.cons_ok rfl nil_ok2)) (by simp)) e4) str_same) fun _ => bin_ok (un_ok rfl e3) rfl str_same
end P
namespace P
open PySem PySem.Spec PyProof.Rows L2 Z
/-! ## the law's draws -/
def pt (g a : Int) : U := .lst [.int g, .int a]
def Urn (p : U) : Prop := ∃ g a, p = pt g a ∧ 0 ≤ g ∧ 0 ≤ a ∧ a < 2305843009213693951
def Gives (q : UQ U) (u p : U) : Prop := ∃ r, q = .ok u (some p :: r)
theorem take_ok {p : U} {n : Int} (P : Urn p) (h1 : 1 ≤ n) (h2 : n < 2 ^ 64) : ∃ r p', 0 ≤ r ∧ r < n ∧ Urn p' ∧ Gives (uf__law_take_i0 [p, .int n]) (.int r) p' := by
  obtain ⟨g, a, rfl, g0, a0, a1⟩ := P
  have hn : n ≠ 0 := by omega
  have ln : n.natAbs.log2 < 9000 := Nat.lt_of_le_of_lt (log_le (k := 64) (by omega)) (by decide)
  by_cases hg : 0 < g
  · exact ⟨g % n, pt (g.fdiv n) a, Int.emod_nonneg _ hn, Int.emod_lt_of_pos _ (by omega), ⟨_, _, rfl, by rw [Int.fdiv_eq_ediv_of_nonneg _ (by omega)]; exact Int.ediv_nonneg g0 (by omega), a0, a1⟩,
      ⟨_, by simp [uf__law_take_i0, ub__law_take_i0, uC, uV, uBin, uUn, uNil, uCons, uTup, uLst, uIf, uCall, uArgs, Z.fill, Arg.get, wbk, pick, Opd.run, Opd.get, UQ.bind, uRet, uSeq, uSet, uEx, uReturn, uIfS, US.then, UQ.s, uCmp, uBool, uOf, uAndB, uOrB, uNotB, uTrue, uTruth, uSub, uPar, uRun, uRunF, uAdd, uSub2, uDiv, uMod, uPow, uNeg, uCmpI, uIx, uLen, uAbs, uToInt, uTuple, uItems, uNop, L2.atI, L2.ixN, List.replicate, pt, hg, hn, ln, show 0 < n by omega]; rfl⟩⟩
  · have m1 : uMul (.int a) (.int 1181783497276652981) = some (.int (a * 1181783497276652981)) := uMul_bt (k := 64) (l := 64) (Bt.le (by omega) (by omega)) (Bt.le (by decide) (by decide)) (by decide)
    let b : Int := (a * 1181783497276652981 + 12345678910987) % 2305843009213693951
    have hb : (a * 1181783497276652981 + 12345678910987) % 2305843009213693951 = b := rfl
    have b0 : 0 ≤ b := Int.emod_nonneg _ (by decide)
    have b1 : b < 2305843009213693951 := Int.emod_lt_of_pos _ (by decide)
    have d1 : b.fdiv 65537 = b / 65537 := Int.fdiv_eq_ediv_of_nonneg _ (by decide)
    have m5 : uMul (.int (b.fdiv 65537)) (.int (b % 65537 + 3)) = some (.int (b.fdiv 65537 * (b % 65537 + 3))) := uMul_bt (k := 64) (l := 64) (by rw [d1]; exact Bt.le (by omega) (by omega)) (Bt.le (by omega) (by omega)) (by decide)
    generalize hz : b.fdiv 65537 * (b % 65537 + 3) = z at m5
    let y : Int := z % 2305843009213693921
    have hy : z % 2305843009213693921 = y := rfl
    exact ⟨(y.fdiv 97) % n, pt g b, Int.emod_nonneg _ hn, Int.emod_lt_of_pos _ (by omega), ⟨_, _, rfl, g0, b0, b1⟩, ⟨_, by
      simp [uf__law_take_i0, ub__law_take_i0, uC, uV, uBin, uUn, uNil, uCons, uTup, uLst, uIf, uCall, uArgs, Z.fill, Arg.get, wbk, pick, Opd.run, Opd.get, UQ.bind, uRet, uSeq, uSet, uEx, uReturn, uIfS, US.then, UQ.s, uCmp, uBool, uOf, uAndB, uOrB, uNotB, uTrue, uTruth, uSub, uPar, uRun, uRunF, uAdd, uSub2, uDiv, uMod, uPow, uNeg, uCmpI, uIx, uLen, uAbs, uToInt, uTuple, uItems, uNop, L2.atI, L2.ixN, List.replicate, pt, hg, m1, hb, m5, hy, show 0 < n by omega, show (97 : Nat).log2 < 9000 by decide, show (65537 : Nat).log2 < 9000 by decide]
      rfl⟩⟩
theorem of_ok {p : U} {xs : List U} (P : Urn p) (h1 : 1 ≤ xs.length) (h2 : xs.length < 2 ^ 60) : ∃ x p', x ∈ xs ∧ Urn p' ∧ Gives (uf__law_of_i0 [p, .lst xs]) x p' := by
  obtain ⟨r, p', r0, r1, P', q, e⟩ := take_ok P (n := (xs.length : Int)) (by omega) (by omega)
  have hl : r.toNat < xs.length := by omega
  exact ⟨xs[r.toNat], p', List.getElem_mem _, P', ⟨_, by simp [uf__law_of_i0, ub__law_of_i0, uC, uV, uBin, uUn, uNil, uCons, uTup, uLst, uIf, uCall, uArgs, Z.fill, Arg.get, wbk, pick, Opd.run, Opd.get, UQ.bind, uRet, uSeq, uSet, uEx, uReturn, uIfS, US.then, UQ.s, uCmp, uBool, uOf, uAndB, uOrB, uNotB, uTrue, uTruth, uSub, uPar, uRun, uRunF, uAdd, uSub2, uDiv, uMod, uPow, uNeg, uCmpI, uIx, uLen, uAbs, uToInt, uTuple, uItems, uNop, L2.atI, L2.ixN, List.replicate, e, r0, r1, hl]; rfl⟩⟩
theorem number_ok {p : U} (P : Urn p) : ∃ i p', 0 ≤ i ∧ i < 100000000000 ∧ Urn p' ∧ Gives (uf__law_number_i0 [p]) (.int i) p' := by
  obtain ⟨a, pa, a0, a1, Pa, ra, ea⟩ := take_ok P (n := 20) (by decide) (by decide)
  obtain ⟨b, pb, b0, b1, Pb, rb, eb⟩ := take_ok Pa (n := 100000000000) (by decide) (by decide)
  obtain ⟨x, pc, hx, Pc, rc, ec⟩ := of_ok (xs := [.int 0, .int 1, .int 2, .int 3, .int 7, .int a, .int b]) Pb (by simp) (by simp)
  have row : uLst (uCons (uC (.int 0)) (uCons (uC (.int 1)) (uCons (uC (.int 2)) (uCons (uC (.int 3)) (uCons (uC (.int 7)) (uCons (uCall [0, 1] [] [.io 0, .val (uC (.int 20))] [(0, 0)] uf__law_take_i0) (uCons (uCall [0, 1] [] [.io 0, .val (uBin uPow (.now (uC (.int 10))) (.now (uC (.int 11))))] [(0, 0)] uf__law_take_i0) (uNil)))))))) [some p] = .ok (.lst [.int 0, .int 1, .int 2, .int 3, .int 7, .int a, .int b]) [some pb] := by
    simp [uC, uV, uBin, uUn, uNil, uCons, uTup, uLst, uIf, uCall, uArgs, Z.fill, Arg.get, wbk, pick, Opd.run, Opd.get, UQ.bind, uRet, uSeq, uSet, uEx, uReturn, uIfS, US.then, UQ.s, uCmp, uBool, uOf, uAndB, uOrB, uNotB, uTrue, uTruth, uSub, uPar, uRun, uRunF, uAdd, uSub2, uDiv, uMod, uPow, uNeg, uCmpI, uIx, uLen, uAbs, uToInt, uTuple, uItems, uNop, L2.atI, L2.ixN, List.replicate, ea, eb]
  have c : uCall [0, 1] [] [.io 0, .val (uLst (uCons (uC (.int 0)) (uCons (uC (.int 1)) (uCons (uC (.int 2)) (uCons (uC (.int 3)) (uCons (uC (.int 7)) (uCons (uCall [0, 1] [] [.io 0, .val (uC (.int 20))] [(0, 0)] uf__law_take_i0) (uCons (uCall [0, 1] [] [.io 0, .val (uBin uPow (.now (uC (.int 10))) (.now (uC (.int 11))))] [(0, 0)] uf__law_take_i0) (uNil)))))))))] [(0, 0)] uf__law_of_i0 [some p] = .ok x [some pc] := call_pot rfl row rfl ec
  simp only [List.mem_cons, List.not_mem_nil, or_false] at hx
  have hi : ∃ i : Int, x = .int i ∧ 0 ≤ i ∧ i < 100000000000 := by
    rcases hx with h | h | h | h | h | h | h <;> exact ⟨_, h, by omega, by omega⟩
  obtain ⟨i, rfl, i0, i1⟩ := hi
  exact ⟨i, pc, i0, i1, Pc, [], run_ret1 rfl c⟩
end P
namespace P
open PySem PySem.Spec PyProof.Rows L2 Z
theorem for_cons2 {p : Pat} {b : UF} {d : U} {r : List U} {e e1 e2 : UV} (h : p.putU d e = some e1) (h2 : b e1 = .nx e2) : forU p b (d :: r) e = forU p b r e2 := by
  simp [forU, h, h2]
/-- a net of so many joins -/
structure Ne (W : Int) (c : Nat) (x : U) : Prop where
  w : wd x
  j : jn W x = some c
  d : dep x ≤ 1 + c
  s : sz x ≤ 11 + 60 * c
/-- words of joins -/
structure Jw (w : Str) (h : Bool) : Prop where
  ok : PyData.strOk w = true
  k : Kd w false false h (!h)
  s : w.cps.size ≤ 10
theorem jw_after : Jw "after" false := ⟨strOk_after, ⟨by decide +kernel, by decide +kernel, by decide +kernel, by decide +kernel⟩, by decide +kernel⟩
theorem jw_last : Jw "last" false := ⟨strOk_last, ⟨by decide +kernel, by decide +kernel, by decide +kernel, by decide +kernel⟩, by decide +kernel⟩
theorem jw_first : Jw "first" false := ⟨strOk_first, ⟨by decide +kernel, by decide +kernel, by decide +kernel, by decide +kernel⟩, by decide +kernel⟩
theorem jw_nb : Jw "not_before" true := ⟨strOk_work, ⟨by decide +kernel, by decide +kernel, by decide +kernel, by decide +kernel⟩, by decide +kernel⟩
theorem jw_gu : Jw "given_up" true := ⟨strOk_given, ⟨by decide +kernel, by decide +kernel, by decide +kernel, by decide +kernel⟩, by decide +kernel⟩
theorem sz_work : (("work" : Str)).cps.size = 4 := by decide +kernel
theorem sz_rest : (("rest" : Str)).cps.size = 4 := by decide +kernel
theorem ne_work {W i : Int} (h0 : 0 ≤ i) (h1 : i < W) (h2 : W < 2 ^ 40) : Ne W 0 (.tup [.str "work", .int i]) := by
  have e1 : (("work" : Str) == "work") = true := by decide +kernel
  refine ⟨⟨strOk_wk, by show i.natAbs < _; omega, trivial⟩, ?_, by simp [dep, deps], by simp only [sz, szs, sz_work]; omega⟩
  simp only [jn, jt, comb, e1, whl, bel, decide_eq_true h0, decide_eq_true h1]
  rfl
theorem ne_rest {W i : Int} (h0 : 0 ≤ i) (h1 : i < 2 ^ 50) : Ne W 0 (.tup [.str "rest", .int i]) := by
  have e1 : (("rest" : Str) == "work") = false := by decide +kernel
  have e2 : (("rest" : Str) == "rest") = true := by decide +kernel
  refine ⟨⟨strOk_rest, by show i.natAbs < _; omega, trivial⟩, ?_, by simp [dep, deps], by simp only [sz, szs, sz_rest]; omega⟩
  simp only [jn, jt, comb, e1, e2, whl, decide_eq_true h0]
  rfl
theorem ne_hour {W i : Int} {w : Str} {c : Nat} {x : U} (hw : Jw w true) (h0 : 0 ≤ i) (h1 : i < 2 ^ 50) (h : Ne W c x) : Ne W (1 + c) (.tup [.str w, .int i, x]) := by
  have hs := hw.s
  have hd := h.d
  have hz := h.s
  refine ⟨⟨hw.ok, by show i.natAbs < _; omega, h.w, trivial⟩, ?_, by simp [dep, deps]; omega, by simp only [sz, szs]; omega⟩
  simp only [jn, jt, comb, hw.k.a, hw.k.r, hw.k.h, whl, decide_eq_true h0, jns, h.j]
  rfl
/-- nets beside one another -/
structure Nes (W : Int) (c : Nat) (xs : List U) : Prop where
  w : wds xs
  j : jns W xs = some c
  d : deps xs ≤ 1 + c
  s : szs xs ≤ 12 * xs.length + 60 * c
theorem nes_nil {W : Int} : Nes W 0 [] := ⟨trivial, rfl, by simp [deps], by simp [szs]⟩
theorem nes_cons {W : Int} {a b : Nat} {x : U} {xs : List U} (h : Ne W a x) (t : Nes W b xs) : Nes W (a + b) (x :: xs) := by
  have h1 := h.d
  have h2 := h.s
  have h3 := t.d
  have h4 := t.s
  exact ⟨⟨h.w, t.w⟩, by simp only [jns, h.j, t.j], by simp only [deps]; omega, by simp only [szs, List.length_cons]; omega⟩
theorem nes_app {W : Int} : ∀ {a b : Nat} {xs ys : List U}, Nes W a xs → Nes W b ys → Nes W (a + b) (xs ++ ys) := fun {a b xs ys} h t => by
  have h1 := h.d
  have h2 := h.s
  have h3 := t.d
  have h4 := t.s
  have e1 : ∀ l : List U, deps (l ++ ys) = max (deps l) (deps ys) := fun l => by
    induction l with
    | nil => simp [deps]
    | cons y l ih => simp only [List.cons_append, deps, ih]; omega
  have e2 : ∀ l : List U, szs (l ++ ys) = szs l + szs ys := fun l => by
    induction l with
    | nil => simp [szs]
    | cons y l ih => simp only [List.cons_append, szs, ih]; omega
  exact ⟨wds_app h.w t.w, by rw [jns_app, h.j, t.j], by rw [e1]; omega, by rw [e2, List.length_append]; omega⟩
theorem ne_join {W : Int} {w : Str} {c : Nat} {xs : List U} (hw : Jw w false) (h : Nes W c xs) (l1 : 2 ≤ xs.length) (l2 : xs.length ≤ 4) : Ne W (1 + c) (.tup (.str w :: xs)) := by
  have hs := hw.s
  have hd := h.d
  have hz := h.s
  obtain ⟨a, ps, rfl⟩ : ∃ a ps, xs = a :: ps := List.exists_cons_of_ne_nil (by intro z; subst z; simp at l1)
  simp only [List.length_cons] at l1 l2 hz
  refine ⟨⟨hw.ok, h.w⟩, ?_, by simp only [dep, deps] at hd ⊢; omega, by simp only [sz, szs] at hz ⊢; omega⟩
  have hj := h.j
  simp only [jns] at hj
  simp only [jn, jt, comb, hw.k.a, hw.k.r, hw.k.h, hw.k.m]
  have hc : 1 ≤ ps.length ∧ ps.length ≤ 3 := by omega
  cases e1 : jn W a with
  | none => rw [e1] at hj; cases hj
  | some x =>
    cases e2 : jns W ps with
    | none => rw [e1, e2] at hj; cases hj
    | some y =>
      rw [e1, e2] at hj
      simp only [Option.some.injEq] at hj
      simp [hc, hj]
end P
namespace P
open PySem PySem.Spec PyProof.Rows L2 Z
noncomputable def dbody : UF := (uSeq (uSet 5 (uCall [0, 1] [] [.io 0, .val (uLst (uCons (uC (.str "after")) (uCons (uC (.str "last")) (uCons (uC (.str "first")) (uCons (uC (.str "not_before")) (uCons (uC (.str "given_up")) (uNil)))))))] [(0, 0)] uf__law_of_i0)) (uSeq (uIfS (uCmp (uInP false) (.now (uV 5)) (.now (uTup (uCons (uC (.str "not_before")) (uCons (uC (.str "given_up")) (uNil)))))) (uSeq (uSet 3 (uTup (uCons (uV 5) (uCons (uV 4) (uCons (uV 3) (uNil)))))) (uNop)) (uSeq (uSet 3 (uCall [0, 1] [] [.io 0, .val (uLst (uCons (uTup (uCons (uV 5) (uCons (uV 3) (uCons (uTup (uCons (uC (.str "rest")) (uCons (uV 4) (uNil)))) (uNil))))) (uCons (uTup (uCons (uV 5) (uCons (uTup (uCons (uC (.str "work")) (uCons (uC (.int 0)) (uNil)))) (uCons (uV 3) (uNil))))) (uNil))))] [(0, 0)] uf__law_of_i0)) (uNop))) (uNop)))
abbrev Ed (p : U) (W m : Int) (x : U) (t : Option U) (y : Option U) : UV := [some p, some (.int W), some (.int m), some x, t, y]
theorem words5 {e : UV} : uLst (uCons (uC (.str "after")) (uCons (uC (.str "last")) (uCons (uC (.str "first")) (uCons (uC (.str "not_before")) (uCons (uC (.str "given_up")) (uNil)))))) e = .ok (.lst [.str "after", .str "last", .str "first", .str "not_before", .str "given_up"]) e := rfl
theorem deep_step {p x : U} {W m t : Int} {c : Nat} {y : Option U} (P : Urn p) (h : Ne W c x) (t0 : 0 ≤ t) (t1 : t < 1000) (w0 : 0 < W) (w1 : W < 1000) : ∃ x' p' y', Ne W (1 + c) x' ∧ Urn p' ∧ dbody (Ed p W m x (some (.int t)) y) = .nx (Ed p' W m x' (some (.int t)) y') := by
  obtain ⟨w, p1, hw, P1, r1, e1⟩ := of_ok (xs := [.str "after", .str "last", .str "first", .str "not_before", .str "given_up"]) P (by simp) (by simp)
  have c1 : uCall [0, 1] [] [.io 0, .val (uLst (uCons (uC (.str "after")) (uCons (uC (.str "last")) (uCons (uC (.str "first")) (uCons (uC (.str "not_before")) (uCons (uC (.str "given_up")) (uNil)))))))] [(0, 0)] uf__law_of_i0 (Ed p W m x (some (.int t)) y) = .ok w (Ed p1 W m x (some (.int t)) y) := call_pot rfl words5 rfl e1
  have hk : ∃ (s : Str) (b : Bool), w = .str s ∧ Jw s b := by
    simp only [List.mem_cons, List.not_mem_nil, or_false] at hw
    rcases hw with z | z | z | z | z <;> subst z
    · exact ⟨_, _, rfl, jw_after⟩
    · exact ⟨_, _, rfl, jw_last⟩
    · exact ⟨_, _, rfl, jw_first⟩
    · exact ⟨_, _, rfl, jw_nb⟩
    · exact ⟨_, _, rfl, jw_gu⟩
  obtain ⟨s, b, rfl, J⟩ := hk
  have ih := (inH J.ok).trans (by rw [J.k.h])
  cases b with
  | true =>
    refine ⟨.tup [.str s, .int t, x], p1, some (.str s), ne_hour J t0 (by omega) h, P1, ?_⟩
    exact seq_nx (set_ok c1) (seq_nx (if_yes (cmp_ok rfl tupH ih) (seq_nx (set_ok (tup_ok (Z.cons_ok rfl (Z.cons_ok rfl (Z.cons_ok rfl nil_ok2))) (by simp))) rfl)) rfl)
  | false =>
    have row : uLst (uCons (uTup (uCons (uV 5) (uCons (uV 3) (uCons (uTup (uCons (uC (.str "rest")) (uCons (uV 4) (uNil)))) (uNil))))) (uCons (uTup (uCons (uV 5) (uCons (uTup (uCons (uC (.str "work")) (uCons (uC (.int 0)) (uNil)))) (uCons (uV 3) (uNil))))) (uNil))) (Ed p1 W m x (some (.int t)) (some (.str s))) = .ok (.lst [.tup [.str s, x, .tup [.str "rest", .int t]], .tup [.str s, .tup [.str "work", .int 0], x]]) (Ed p1 W m x (some (.int t)) (some (.str s))) := rfl
    obtain ⟨v, p2, hv, P2, r2, e2⟩ := of_ok (xs := [.tup [.str s, x, .tup [.str "rest", .int t]], .tup [.str s, .tup [.str "work", .int 0], x]]) P1 (by simp) (by simp)
    have hn : Ne W (1 + c) v := by
      simp only [List.mem_cons, List.not_mem_nil, or_false] at hv
      rcases hv with z | z <;> subst z
      · exact ne_join J (by simpa using nes_cons h (nes_cons (ne_rest t0 (by omega)) nes_nil)) (by simp) (by simp)
      · exact ne_join J (by simpa using nes_cons (ne_work (Int.le_refl 0) w0 (by omega)) (nes_cons h nes_nil)) (by simp) (by simp)
    refine ⟨v, p2, some (.str s), hn, P2, ?_⟩
    exact seq_nx (set_ok c1) (seq_nx (if_no (cmp_ok rfl tupH ih) (seq_nx (set_ok (call_pot rfl row rfl e2)) rfl)) rfl)
theorem deep_for {W m : Int} (w0 : 0 < W) (w1 : W < 1000) : ∀ (ks : List Int) (p x : U) (c : Nat) (t y : Option U), (∀ i, i ∈ ks → 0 ≤ i ∧ i < 1000) → Urn p → Ne W c x → ∃ x' p' t' y', Ne W (c + ks.length) x' ∧ Urn p' ∧ forU (.nm 4) dbody (ks.map .int) (Ed p W m x t y) = .nx (Ed p' W m x' t' y')
  | [], p, x, c, t, y, _, P, h => ⟨x, p, t, y, h, P, by simp [forU]⟩
  | i :: ks, p, x, c, t, y, hk, P, h => by
    obtain ⟨i0, i1⟩ := hk i List.mem_cons_self
    obtain ⟨x1, p1, y1, h1, P1, e1⟩ := deep_step (m := m) (y := y) P h i0 i1 w0 w1
    obtain ⟨x2, p2, t2, y2, h2, P2, e2⟩ := deep_for w0 w1 ks p1 x1 (1 + c) (some (.int i)) y1 (fun j hj => hk j (List.mem_cons_of_mem _ hj)) P1 h1
    refine ⟨x2, p2, t2, y2, by rw [List.length_cons, show c + (ks.length + 1) = 1 + c + ks.length from by omega]; exact h2, P2, ?_⟩
    rw [List.map_cons, for_cons2 (e1 := Ed p W m x (some (.int i)) y) rfl e1, e2]
theorem deep_ok {p : U} {W : Int} {m : Nat} (P : Urn p) (w0 : 0 < W) (w1 : W < 1000) (hm : m ≤ 100) : ∃ x p', Ne W m x ∧ Urn p' ∧ Gives (uf__law_deep_i0 [p, .int W, .int m]) x p' := by
  have h0 : Ne W 0 (.tup [.str "work", .int (W - 1)]) := ne_work (by omega) (by omega) (by omega)
  obtain ⟨x, p', t', y', h, P', e⟩ := deep_for (m := m) w0 w1 ((List.range m).map fun (i : Nat) => (i : Int)) p _ 0 none none (fun i hi => by
    obtain ⟨j, hj, rfl⟩ := List.mem_map.mp hi
    have := List.mem_range.mp hj
    omega) P h0
  have hl : 0 + ((List.range m).map fun (i : Nat) => (i : Int)).length = m := by simp
  rw [hl] at h
  have er : ((List.range m).map fun (i : Nat) => (i : Int)).map U.int = rngU 0 m := by
    unfold rngU
    rw [List.map_map]
    apply List.map_congr_left
    intro i _
    simp
  rw [er] at e
  have s1 : uSet 3 (uTup (uCons (uC (.str "work")) (uCons (uBin uSub2 (.now (uV 1)) (.now (uC (.int 1)))) (uNil)))) [some p, some (.int W), some (.int m), none, none, none] = .nx (Ed p W m (.tup [.str "work", .int (W - 1)]) none none) := rfl
  have f1 : uFor (uRng (uV 2)) (.nm 4) dbody (Ed p W m (.tup [.str "work", .int (W - 1)]) none none) = .nx (Ed p' W m x t' y') := by
    have r1 : uRng (uV 2) (Ed p W m (.tup [.str "work", .int (W - 1)]) none none) = .ok (rngU 0 m) (Ed p W m (.tup [.str "work", .int (W - 1)]) none none) := rng_ok rfl (Nat.lt_of_le_of_lt hm (by decide))
    unfold uFor
    rw [r1]
    exact e
  exact ⟨x, p', h, P', _, run_rt rfl (seq_nx s1 (seq_nx f1 (seq_rt (ret_ok rfl))))⟩
end P
namespace P
open PySem PySem.Spec PyProof.Rows L2 Z
abbrev En7 (p : U) (W : Int) (l : Nat) (a b c d : Option U) : UV := [some p, some (.int W), some (.lst [.int l]), a, b, c, d]
theorem call_pot0 {G : List U → UQ U} {e : UV} {u p p' : U} {r : UV} (h0 : (e[0]?).join = some p) (hG : G [p] = .ok u (some p' :: r)) : uCall [0] [] [.io 0] [(0, 0)] G e = .ok u (e.set 0 (some p')) := by
  have pk : pick [0] ([p] ++ []) = [p] := rfl
  simp only [uCall, uArgs, h0, UQ.bind, Z.fill, Arg.get, pk, hG, wbk]
  rfl
theorem call_net {G : List U → UQ U} {p u p' : U} {W : Int} {l l' : Nat} {a b c d y : Option U} {r : UV} (hG : G [p, .int W, .lst [.int l]] = .ok u (some p' :: y :: some (.lst [.int l']) :: r)) : uCall [0, 1, 2] [] [.io 0, .val (uV 1), .io 2] [(0, 0), (2, 2)] G (En7 p W l a b c d) = .ok u (En7 p' W l' a b c d) := by
  have pk : pick [0, 1, 2] ([p, .int W, .lst [.int l]] ++ []) = [p, .int W, .lst [.int l]] := rfl
  have a1 : uArgs [.io 0, .val (uV 1), .io 2] (En7 p W l a b c d) = .ok [none, some (.int W), none] (En7 p W l a b c d) := rfl
  have a2 : Z.fill [.io 0, .val (uV 1), .io 2] [none, some (.int W), none] (En7 p W l a b c d) = some [p, .int W, .lst [.int l]] := rfl
  simp only [uCall, a1, UQ.bind, a2, pk, hG, wbk]
  rfl
noncomputable def leafE : UE := (uIf (uCmp uGt (.now (uCall [0, 1] [] [.io 0, .val (uC (.int 4))] [(0, 0)] uf__law_take_i0)) (.now (uC (.int 0)))) (uTup (uCons (uC (.str "work")) (uCons (uCall [0, 1] [] [.io 0, .val (uV 1)] [(0, 0)] uf__law_take_i0) (uNil)))) (uTup (uCons (uC (.str "rest")) (uCons (uCall [0] [] [.io 0] [(0, 0)] uf__law_number_i0) (uNil)))))
theorem leaf_ok {p : U} {W : Int} {l : Nat} {a b c d : Option U} (P : Urn p) (w0 : 0 < W) (w1 : W < 1000) : ∃ x p', Ne W 0 x ∧ Urn p' ∧ leafE (En7 p W l a b c d) = .ok x (En7 p' W l a b c d) := by
  obtain ⟨r, p1, r0, r1, P1, s1, e1⟩ := take_ok (n := 4) P (by decide) (by decide)
  have c1 : uCmp uGt (.now (uCall [0, 1] [] [.io 0, .val (uC (.int 4))] [(0, 0)] uf__law_take_i0)) (.now (uC (.int 0))) (En7 p W l a b c d) = .ok (decide (0 < r)) (En7 p1 W l a b c d) := cmp_ok (call_pot rfl rfl rfl e1) rfl rfl
  by_cases h : 0 < r
  · rw [decide_eq_true h] at c1
    obtain ⟨i, p2, i0, i1, P2, s2, e2⟩ := take_ok (n := W) P1 (by omega) (by omega)
    refine ⟨_, p2, ne_work i0 i1 (by omega), P2, ?_⟩
    simp only [leafE, uIf, c1, UQ.bind]
    exact tup_ok (Z.cons_ok rfl (Z.cons_ok (call_pot (q := uV 1) rfl rfl rfl e2) nil_ok2)) (by simp)
  · rw [decide_eq_false h] at c1
    obtain ⟨i, p2, i0, i1, P2, s2, e2⟩ := number_ok P1
    refine ⟨_, p2, ne_rest i0 (by omega), P2, ?_⟩
    simp only [leafE, uIf, c1, UQ.bind]
    exact tup_ok (Z.cons_ok rfl (Z.cons_ok (call_pot0 rfl e2) nil_ok2)) (by simp)
/-- the answer of a draw of a net -/
def NetA (W : Int) (l : Nat) (q : UQ U) : Prop := ∃ x p' c l' y r, c + l' = l ∧ Ne W c x ∧ Urn p' ∧ q = .ok x (some p' :: y :: some (.lst [.int (l' : Nat)]) :: r)
theorem lc_net {G : List U → UQ U} {W : Int} {w m : Option U} : ∀ (ks : List U) (acc : List U) (p : U) (l : Nat), acc.length + ks.length < 1000 → Urn p → (∀ p l', Urn p → l' ≤ l → NetA W l' (G [p, .int W, .lst [.int (l' : Nat)]])) →
    ∃ xs p' c l', xs.length = ks.length ∧ c + l' = l ∧ Nes W c xs ∧ Urn p' ∧ lcU (.nm 6) uTrue (uCall [0, 1, 2] [] [.io 0, .val (uV 1), .io 2] [(0, 0), (2, 2)] G) [6] ks (En7 p W l w m none none) acc = some (acc ++ xs, En7 p' W l' w m none none)
  | [], acc, p, l, _, P, _ => ⟨[], p, 0, l, rfl, by omega, nes_nil, P, by simp [lcU]⟩
  | k :: ks, acc, p, l, ha, P, h => by
    simp only [List.length_cons] at ha
    obtain ⟨x, p1, c1, l1, y, r, hc, hx, P1, e⟩ := h p l P (Nat.le_refl _)
    obtain ⟨xs, p', c, l', q1, q2, q3, q4, q5⟩ := lc_net (w := w) (m := m) ks (acc ++ [x]) p1 l1 (by simp; omega) P1 fun p l' Q hl => h p l' Q (by omega)
    refine ⟨x :: xs, p', c1 + c, l', by simp [q1], by omega, nes_cons hx q3, q4, ?_⟩
    have el : uCall [0, 1, 2] [] [.io 0, .val (uV 1), .io 2] [(0, 0), (2, 2)] G (En7 p W l w m none (some k)) = .ok x (En7 p1 W l1 w m none (some k)) := call_net e
    simp only [lcU, Pat.putU, uTrue]
    show (match uCall [0, 1, 2] [] [.io 0, .val (uV 1), .io 2] [(0, 0), (2, 2)] G (En7 p W l w m none (some k)) with
      | .ok y e3 => if acc.length < 100000 then lcU (.nm 6) uTrue (uCall [0, 1, 2] [] [.io 0, .val (uV 1), .io 2] [(0, 0), (2, 2)] G) [6] ks (wipeU e3 [6]) (acc ++ [y]) else none
      | _ => none) = _
    rw [el]
    dsimp only
    rw [if_pos (by omega)]
    show lcU _ _ _ _ ks (En7 p1 W l1 w m none none) (acc ++ [x]) = _
    rw [q5]
    simp
theorem words8 {e : UV} : uLst (uCons (uC (.str "after")) (uCons (uC (.str "last")) (uCons (uC (.str "first")) (uCons (uC (.str "after")) (uCons (uC (.str "last")) (uCons (uC (.str "first")) (uCons (uC (.str "not_before")) (uCons (uC (.str "given_up")) (uNil))))))))) e = .ok (.lst [.str "after", .str "last", .str "first", .str "after", .str "last", .str "first", .str "not_before", .str "given_up"]) e := rfl
theorem net_step {n : Nat} {p : U} {W : Int} {l : Nat} (P : Urn p) (w0 : 0 < W) (w1 : W < 1000) (hl : l < 100) (h : ∀ p l', Urn p → l' < l → NetA W l' (uf__law_net_i02 n [p, .int W, .lst [.int (l' : Nat)]])) : NetA W l (uf__law_net_i02 (n + 1) [p, .int W, .lst [.int (l : Nat)]]) := by
  have ix : ∀ (q : U) (a b c d : Option U), uBin uIx (.late 2) (.now (uC (.int 0))) (En7 q W l a b c d) = .ok (.int l) (En7 q W l a b c d) := fun q a b c d => rfl
  have c0 : uCmp uEq (.now (uBin uIx (.late 2) (.now (uC (.int 0))))) (.now (uC (.int 0))) (En7 p W l none none none none) = .ok ((l : Int) == 0) (En7 p W l none none none none) := cmp_ok (ix _ _ _ _ _) rfl eqI
  have leafCase : ∀ q : U, Urn q → uOrB (uCmp uEq (.now (uBin uIx (.late 2) (.now (uC (.int 0))))) (.now (uC (.int 0)))) (uCmp uEq (.now (uCall [0, 1] [] [.io 0, .val (uC (.int 4))] [(0, 0)] uf__law_take_i0)) (.now (uC (.int 0)))) (En7 p W l none none none none) = .ok true (En7 q W l none none none none) → NetA W l (uf__law_net_i02 (n + 1) [p, .int W, .lst [.int (l : Nat)]]) := fun q Q ht => by
    obtain ⟨x, p', hx, P', e⟩ := leaf_ok (l := l) (a := none) (b := none) (c := none) (d := none) Q w0 w1
    exact ⟨x, p', 0, l, _, _, by omega, hx, P', run_rt rfl (seq_rt (if_yes ht (seq_rt (ret_ok e))))⟩
  by_cases l0 : l = 0
  · have z : ((l : Int) == 0) = true := by rw [beq_iff_eq]; omega
    rw [z] at c0
    exact leafCase p P (or_yes c0)
  · have z : ((l : Int) == 0) = false := by rw [beq_eq_false_iff_ne]; omega
    rw [z] at c0
    obtain ⟨r, p1, r0, r1, P1, s1, e1⟩ := take_ok (n := 4) P (by decide) (by decide)
    have c1 : uCmp uEq (.now (uCall [0, 1] [] [.io 0, .val (uC (.int 4))] [(0, 0)] uf__law_take_i0)) (.now (uC (.int 0))) (En7 p W l none none none none) = .ok (r == 0) (En7 p1 W l none none none none) := cmp_ok (call_pot rfl rfl rfl e1) rfl eqI
    by_cases rz : r = 0
    · rw [beq_iff_eq.mpr rz] at c1
      exact leafCase p1 P1 (or_no c0 c1)
    · rw [beq_eq_false_iff_ne.mpr rz] at c1
      obtain ⟨k, rfl⟩ : ∃ k, l = k + 1 := ⟨l - 1, by omega⟩
      have sb : uSub 2 (uBin uSub2 (.now (uBin uIx (.late 2) (.now (uC (.int 0))))) (.now (uC (.int 1)))) (uC (.int 0)) (En7 p1 W (k + 1) none none none none) = .nx (En7 p1 W k none none none none) := by
        have e0 : ((k + 1 : Nat) : Int) - 1 = (k : Int) := by omega
        have : uSub 2 (uBin uSub2 (.now (uBin uIx (.late 2) (.now (uC (.int 0))))) (.now (uC (.int 1)))) (uC (.int 0)) (En7 p1 W (k + 1) none none none none) = .nx [some p1, some (.int W), some (.lst [.int (((k + 1 : Nat) : Int) - 1)]), none, none, none, none] := rfl
        rw [this, e0]
      obtain ⟨v, p2, hv, P2, s2, e2⟩ := of_ok (xs := [.str "after", .str "last", .str "first", .str "after", .str "last", .str "first", .str "not_before", .str "given_up"]) P1 (by simp) (by simp)
      have hk : ∃ (s : Str) (b : Bool), v = .str s ∧ Jw s b := by
        simp only [List.mem_cons, List.not_mem_nil, or_false] at hv
        rcases hv with z | z | z | z | z | z | z | z <;> subst z
        · exact ⟨_, _, rfl, jw_after⟩
        · exact ⟨_, _, rfl, jw_last⟩
        · exact ⟨_, _, rfl, jw_first⟩
        · exact ⟨_, _, rfl, jw_after⟩
        · exact ⟨_, _, rfl, jw_last⟩
        · exact ⟨_, _, rfl, jw_first⟩
        · exact ⟨_, _, rfl, jw_nb⟩
        · exact ⟨_, _, rfl, jw_gu⟩
      obtain ⟨s, b, rfl, J⟩ := hk
      have ih := (inH J.ok).trans (by rw [J.k.h])
      have c2 : uCall [0, 1] [] [.io 0, .val (uLst (uCons (uC (.str "after")) (uCons (uC (.str "last")) (uCons (uC (.str "first")) (uCons (uC (.str "after")) (uCons (uC (.str "last")) (uCons (uC (.str "first")) (uCons (uC (.str "not_before")) (uCons (uC (.str "given_up")) (uNil))))))))))] [(0, 0)] uf__law_of_i0 (En7 p1 W k none none none none) = .ok (.str s) (En7 p2 W k none none none none) := call_pot rfl words8 rfl e2
      cases b with
      | true =>
        obtain ⟨i, p3, i0, i1, P3, s3, e3⟩ := number_ok P2
        obtain ⟨x, p4, c, l', y, r', hc, hx, P4, e4⟩ := h p3 k P3 (by omega)
        refine ⟨_, p4, 1 + c, l', _, _, by omega, ne_hour J i0 (by omega) hx, P4, run_rt rfl (seq_nx (if_no (or_no c0 c1) rfl) (seq_nx sb (seq_nx (set_ok c2) (seq_rt (if_yes (cmp_ok rfl tupH ih) (seq_nx (set_ok (call_pot0 (p := p2) rfl e3)) (seq_rt (ret_ok (tup_ok (Z.cons_ok rfl (Z.cons_ok rfl (Z.cons_ok (call_net e4) nil_ok2))) (by simp))))))))))⟩
      | false =>
        obtain ⟨v, p3, hv, P3, s3, e3⟩ := of_ok (xs := [.int 0, .int 0, .int 1, .int 2]) P2 (by simp) (by simp)
        obtain ⟨m, rfl, hm⟩ : ∃ m : Nat, v = .int m ∧ m ≤ 2 := by
          simp only [List.mem_cons, List.not_mem_nil, or_false] at hv
          rcases hv with z | z | z | z <;> subst z
          · exact ⟨0, rfl, by omega⟩
          · exact ⟨0, rfl, by omega⟩
          · exact ⟨1, rfl, by omega⟩
          · exact ⟨2, rfl, by omega⟩
        have c3 : uBin uAdd (.now (uC (.int 2))) (.now (uCall [0, 1] [] [.io 0, .val (uLst (uCons (uC (.int 0)) (uCons (uC (.int 0)) (uCons (uC (.int 1)) (uCons (uC (.int 2)) (uNil))))))] [(0, 0)] uf__law_of_i0)) (En7 p2 W k (some (.str s)) none none none) = .ok (.int ((2 + m : Nat) : Int)) (En7 p3 W k (some (.str s)) none none none) := bin_ok rfl (call_pot (x := .lst [.int 0, .int 0, .int 1, .int 2]) rfl rfl rfl e3) rfl
        have kl : (rngU 0 (2 + m)).length = 2 + m := by simp [rngU]
        obtain ⟨xs, p4, c, l', q1, q2, q3, q4, q5⟩ := lc_net (G := uf__law_net_i02 n) (W := W) (w := some (.str s)) (m := some (.int ((2 + m : Nat) : Int))) (rngU 0 (2 + m)) [] p3 k (by rw [kl]; simp; omega) P3 fun p l' Q hl => h p l' Q (by omega)
        rw [kl] at q1
        have lc : uLc (uRng (uV 4)) (.nm 6) [6] (uTrue) (uCall [0, 1, 2] [] [.io 0, .val (uV 1), .io 2] [(0, 0), (2, 2)] (uf__law_net_i02 n)) (En7 p3 W k (some (.str s)) (some (.int ((2 + m : Nat) : Int))) none none) = .ok (.lst xs) (En7 p4 W l' (some (.str s)) (some (.int ((2 + m : Nat) : Int))) none none) := by
          have rg : uRng (uV 4) (En7 p3 W k (some (.str s)) (some (.int ((2 + m : Nat) : Int))) none none) = .ok (rngU 0 (2 + m)) (En7 p3 W k (some (.str s)) (some (.int ((2 + m : Nat) : Int))) none none) := rng_ok rfl (Nat.lt_of_le_of_lt (show 2 + m ≤ 4 by omega) (by decide))
          exact lc_ok2 rg q5
        have ad : uAdd (.tup [.str s]) (.tup xs) = some (.tup (.str s :: xs)) := by
          show (if [U.str s].length + xs.length ≤ 1000 then some (U.tup ([U.str s] ++ xs)) else none) = _
          rw [if_pos (by simp; omega)]
          rfl
        refine ⟨.tup (.str s :: xs), p4, 1 + c, l', _, _, by omega, ne_join J q3 (by omega) (by omega), q4, run_rt rfl (seq_nx (if_no (or_no c0 c1) rfl) (seq_nx sb (seq_nx (set_ok c2) (seq_nx (if_no (cmp_ok rfl tupH ih) rfl) (seq_nx (set_ok c3) (seq_rt (ret_ok (bin_ok (tup_ok (Z.cons_ok rfl nil_ok2) (by simp)) (un_ok lc rfl) ad))))))))⟩
theorem net_ok {W : Int} (w0 : 0 < W) (w1 : W < 1000) : ∀ (n : Nat) (p : U) (l : Nat), Urn p → l < n → l < 100 → NetA W l (uf__law_net_i02 n [p, .int W, .lst [.int (l : Nat)]])
  | 0, _, _, _, h, _ => absurd h (Nat.not_lt_zero _)
  | n + 1, p, l, P, h, hl => net_step P w0 w1 hl fun p l' Q hl' => net_ok w0 w1 n p l' Q (by omega) (by omega)
end P
namespace P
open PySem PySem.Spec PyProof.Rows L2 Z
def odds (W : Int) : List U := [.non, .bl true, .bl false, .int (-1), .int 0, .int W, .int 7, .str "work", .str "rest", .str "last", .str "", .tup [], .lst [], .emp, .tup [.str "work"], .tup [.str "rest", .int (-1)], .tup [.str "work", .int W], .tup [.str "work", .int 0], .tup [.str "rest", .int 0], .tup [.str "after", .tup [.str "rest", .int 1]], .lst [.str "rest", .int 1], .tup [.str "rest", .bl true], .str "not_before", .str "given_up", .str "first", .str "after", .str "later", .tup [.str "last", .tup [.str "rest", .int 1], .tup [.str "rest", .int 1], .tup [.str "rest", .int 1], .tup [.str "rest", .int 1], .tup [.str "rest", .int 1]]]
theorem strOk_nil : PyData.strOk "" = true := by decide +kernel
theorem strOk_later : PyData.strOk "later" = true := by decide +kernel
theorem odds_ok {W : Int} (h : W.natAbs < 1000) : ∀ x, x ∈ odds W → Th 2 100 x := fun x hx => by
  have hw : W.natAbs < 2 ^ 60 := by omega
  have z1 : (("work" : Str)).cps.size = 4 := by decide +kernel
  have z2 : (("rest" : Str)).cps.size = 4 := by decide +kernel
  have z3 : (("last" : Str)).cps.size = 4 := by decide +kernel
  have z4 : (("" : Str)).cps.size = 0 := by decide +kernel
  have z5 : (("after" : Str)).cps.size = 5 := by decide +kernel
  have z6 : (("first" : Str)).cps.size = 5 := by decide +kernel
  have z7 : (("not_before" : Str)).cps.size = 10 := by decide +kernel
  have z8 : (("given_up" : Str)).cps.size = 8 := by decide +kernel
  have z9 : (("later" : Str)).cps.size = 5 := by decide +kernel
  simp only [odds, List.mem_cons, List.not_mem_nil, or_false] at hx
  rcases hx with z | z | z | z | z | z | z | z | z | z | z | z | z | z | z | z | z | z | z | z | z | z | z | z | z | z | z | z <;> subst z <;>
    exact ⟨by simp [wd, wds, strOk_wk, strOk_rest, strOk_last, strOk_nil, strOk_after, strOk_first, strOk_work, strOk_given, strOk_later, hw], by simp [dep, deps], by simp [sz, szs, z1, z2, z3, z4, z5, z6, z7, z8, z9]⟩
theorem odd_ok {p : U} {W : Int} (P : Urn p) (h : W.natAbs < 1000) : ∃ x p', Th 2 100 x ∧ Urn p' ∧ Gives (uf__law_odd_i0 [p, .int W]) x p' := by
  obtain ⟨x, p', hx, P', r, e⟩ := of_ok (xs := odds W) P (by simp [odds]) (by simp [odds])
  refine ⟨x, p', odds_ok h x hx, P', ?_⟩
  have row : (uBin uAdd (.now (uV 2)) (.now (uLst (uCons (uC (.str "not_before")) (uCons (uC (.str "given_up")) (uCons (uC (.str "first")) (uCons (uC (.str "after")) (uCons (uC (.str "later")) (uCons (uBin uAdd (.now (uTup (uCons (uC (.str "last")) (uNil)))) (.now (uBin uMul (.now (uTup (uCons (uTup (uCons (uC (.str "rest")) (uCons (uC (.int 1)) (uNil)))) (uNil)))) (.now (uC (.int 5)))))) (uNil)))))))))) [some p, some (.int W), some (.lst ((odds W).take 22))] = .ok (.lst (odds W)) [some p, some (.int W), some (.lst ((odds W).take 22))] := rfl
  have c : uCall [0, 1] [] [.io 0, .val (uBin uAdd (.now (uV 2)) (.now (uLst (uCons (uC (.str "not_before")) (uCons (uC (.str "given_up")) (uCons (uC (.str "first")) (uCons (uC (.str "after")) (uCons (uC (.str "later")) (uCons (uBin uAdd (.now (uTup (uCons (uC (.str "last")) (uNil)))) (.now (uBin uMul (.now (uTup (uCons (uTup (uCons (uC (.str "rest")) (uCons (uC (.int 1)) (uNil)))) (uNil)))) (.now (uC (.int 5)))))) (uNil))))))))))] [(0, 0)] uf__law_of_i0 [some p, some (.int W), some (.lst ((odds W).take 22))] = .ok x [some p', some (.int W), some (.lst ((odds W).take 22))] := call_pot rfl row rfl e
  exact ⟨_, run_rt rfl (seq_nx (set_ok (u := .lst ((odds W).take 16)) rfl) (seq_nx (set_ok (u := .lst ((odds W).take 22)) rfl) (seq_rt (ret_ok c))))⟩
end P
namespace P
open PySem PySem.Spec PyProof.Rows L2 Z
/-! ## a thing bent -/
mutual
def mx : U → Nat
  | .tup xs => max xs.length (mxs xs)
  | .lst xs => max xs.length (mxs xs)
  | _ => 0
def mxs : List U → Nat
  | [] => 0
  | x :: xs => max (mx x) (mxs xs)
end
/-- a row of things -/
structure Os (d s m : Nat) (xs : List U) : Prop where
  w : wds xs
  d : deps xs ≤ d
  s : szs xs ≤ s
  m : mxs xs ≤ m
structure Ot (d s m : Nat) (x : U) : Prop where
  w : wd x
  d : dep x ≤ d
  s : sz x ≤ s
  m : mx x ≤ m
theorem deps_app : ∀ xs ys : List U, deps (xs ++ ys) = max (deps xs) (deps ys)
  | [], ys => by simp [deps]
  | x :: xs, ys => by simp only [List.cons_append, deps, deps_app xs ys]; omega
theorem szs_app : ∀ xs ys : List U, szs (xs ++ ys) = szs xs + szs ys
  | [], ys => by simp [szs]
  | x :: xs, ys => by simp only [List.cons_append, szs, szs_app xs ys]; omega
theorem mxs_app : ∀ xs ys : List U, mxs (xs ++ ys) = max (mxs xs) (mxs ys)
  | [], ys => by simp [mxs]
  | x :: xs, ys => by simp only [List.cons_append, mxs, mxs_app xs ys]; omega
theorem mxs_mem : ∀ {xs : List U} {p : U}, p ∈ xs → mx p ≤ mxs xs
  | x :: xs, p, h => by
    simp only [mxs]
    rcases List.mem_cons.mp h with z | z
    · subst z; omega
    · have := mxs_mem z; omega
theorem revs : ∀ xs : List U, (wds xs → wds xs.reverse) ∧ deps xs.reverse = deps xs ∧ szs xs.reverse = szs xs ∧ mxs xs.reverse = mxs xs
  | [] => ⟨id, rfl, rfl, rfl⟩
  | x :: xs => by
    obtain ⟨h1, h2, h3, h4⟩ := revs xs
    rw [List.reverse_cons]
    refine ⟨fun h => wds_app (h1 h.2) ⟨h.1, trivial⟩, ?_, ?_, ?_⟩
    · rw [deps_app, h2]; simp only [deps]; omega
    · rw [szs_app, h3]; simp only [szs]; omega
    · rw [mxs_app, h4]; simp only [mxs]; omega
theorem cut3 {xs : List U} {i : Nat} (h : i < xs.length) : ∃ a c b, xs = a ++ c :: b ∧ xs.take i = a ∧ xs.drop i = c :: b ∧ xs.drop (i + 1) = b ∧ (xs.drop i).take 1 = [c] ∧ xs[i] = c := by
  refine ⟨xs.take i, xs[i], xs.drop (i + 1), ?_, rfl, List.drop_eq_getElem_cons h, rfl, ?_, rfl⟩
  · conv => lhs; rw [← List.take_append_drop i xs, List.drop_eq_getElem_cons h]
  · rw [List.drop_eq_getElem_cons h]; rfl
abbrev Eo (p x : U) (W : Int) (a b c d : Option U) : UV := [some p, some x, some (.int W), a, b, c, d]
theorem sl_to {p : U} {W : Int} {a b c d : Option U} {xs : List U} {i : Nat} (hi : i ≤ xs.length) (hc : c = some (.int i)) : uSl (.now (uV 1)) (uC .non) (uInt1 (uV 5)) (Eo p (.tup xs) W a b c d) = .ok (.tup (xs.take i)) (Eo p (.tup xs) W a b c d) := by
  subst hc
  have h0 : ¬ ((i : Int) < 0) := by omega
  have e : cutL xs none (some (i : Int)) = xs.take i := by
    simp only [cutL, HT.sIx, h0, if_false, Int.toNat_natCast, Nat.min_eq_left hi, Nat.sub_zero, List.drop_zero]
  have : uSl (.now (uV 1)) (uC .non) (uInt1 (uV 5)) (Eo p (.tup xs) W a b (some (.int i)) d) = .ok (.tup (cutL xs none (some (i : Int)))) (Eo p (.tup xs) W a b (some (.int i)) d) := rfl
  rw [this, e]
theorem sl_from {p : U} {W : Int} {a b c d : Option U} {xs : List U} {i : Nat} (hi : i ≤ xs.length) (hc : c = some (.int i)) : uSl (.now (uV 1)) (uInt1 (uV 5)) (uC .non) (Eo p (.tup xs) W a b c d) = .ok (.tup (xs.drop i)) (Eo p (.tup xs) W a b c d) := by
  subst hc
  have h0 : ¬ ((i : Int) < 0) := by omega
  have e : cutL xs (some (i : Int)) none = xs.drop i := by
    simp only [cutL, HT.sIx, h0, if_false, Int.toNat_natCast, Nat.min_eq_left hi]
    rw [List.take_of_length_le (by rw [List.length_drop]; omega)]
  have : uSl (.now (uV 1)) (uInt1 (uV 5)) (uC .non) (Eo p (.tup xs) W a b (some (.int i)) d) = .ok (.tup (cutL xs (some (i : Int)) none)) (Eo p (.tup xs) W a b (some (.int i)) d) := rfl
  rw [this, e]
theorem sl_next {p : U} {W : Int} {a b c d : Option U} {xs : List U} {i : Nat} (hi : i ≤ xs.length) (hc : c = some (.int i)) : uSl (.now (uV 1)) (uInt1 (uBin uAdd (.now (uV 5)) (.now (uC (.int 1))))) (uC .non) (Eo p (.tup xs) W a b c d) = .ok (.tup (xs.drop (i + 1))) (Eo p (.tup xs) W a b c d) := by
  subst hc
  have h0 : ¬ (((i + 1 : Nat) : Int) < 0) := by omega
  have e : cutL xs (some ((i + 1 : Nat) : Int)) none = xs.drop (i + 1) := by
    simp only [cutL, HT.sIx, h0, if_false, Int.toNat_natCast]
    by_cases z : i + 1 ≤ xs.length
    · rw [Nat.min_eq_left z, List.take_of_length_le (by rw [List.length_drop]; omega)]
    · rw [Nat.min_eq_right (by omega), List.drop_length, List.drop_of_length_le (by omega)]; simp
  have : uSl (.now (uV 1)) (uInt1 (uBin uAdd (.now (uV 5)) (.now (uC (.int 1))))) (uC .non) (Eo p (.tup xs) W a b (some (.int i)) d) = .ok (.tup (cutL xs (some ((i + 1 : Nat) : Int)) none)) (Eo p (.tup xs) W a b (some (.int i)) d) := rfl
  rw [this, e]
theorem sl_one {p : U} {W : Int} {a b c d : Option U} {xs : List U} {i : Nat} (hi : i ≤ xs.length) (hc : c = some (.int i)) : uSl (.now (uV 1)) (uInt1 (uV 5)) (uInt1 (uBin uAdd (.now (uV 5)) (.now (uC (.int 1))))) (Eo p (.tup xs) W a b c d) = .ok (.tup ((xs.drop i).take 1)) (Eo p (.tup xs) W a b c d) := by
  subst hc
  have h0 : ¬ ((i : Int) < 0) := by omega
  have h1 : ¬ (((i + 1 : Nat) : Int) < 0) := by omega
  have e : cutL xs (some (i : Int)) (some ((i + 1 : Nat) : Int)) = (xs.drop i).take 1 := by
    simp only [cutL, HT.sIx, h0, h1, if_false, Int.toNat_natCast, Nat.min_eq_left hi]
    by_cases z : i + 1 ≤ xs.length
    · rw [Nat.min_eq_left z, show i + 1 - i = 1 by omega]
    · rw [Nat.min_eq_right (by omega), List.drop_of_length_le (by omega)]; simp
  have : uSl (.now (uV 1)) (uInt1 (uV 5)) (uInt1 (uBin uAdd (.now (uV 5)) (.now (uC (.int 1))))) (Eo p (.tup xs) W a b (some (.int i)) d) = .ok (.tup (cutL xs (some (i : Int)) (some ((i + 1 : Nat) : Int)))) (Eo p (.tup xs) W a b (some (.int i)) d) := rfl
  rw [this, e]
theorem add_t {f g : UE} {e e1 e2 : UV} {xs ys : List U} (hf : f e = .ok (.tup xs) e1) (hg : g e1 = .ok (.tup ys) e2) (h : xs.length + ys.length ≤ 1000) : uBin uAdd (.now f) (.now g) e = .ok (.tup (xs ++ ys)) e2 :=
  bin_ok hf hg (by show (if xs.length + ys.length ≤ 1000 then _ else _) = _; rw [if_pos h])
/-- the answer: a thing little greater -/
def OtA (x : U) (q : UQ U) : Prop := ∃ y p', Ot (dep x + 3) (2 * sz x + 200) (max (mx x) 6 + 1) y ∧ Urn p' ∧ Gives q y p'
end P
namespace P
open PySem PySem.Spec PyProof.Rows L2 Z
theorem and_yes {p q : UB} {e e1 : UV} {r : UQ Bool} (h : p e = .ok true e1) (h2 : q e1 = r) : uAndB p q e = r := by
  simp only [uAndB, h, UQ.bind]
  exact h2
theorem and_no {p q : UB} {e e1 : UV} (h : p e = .ok false e1) : uAndB p q e = .ok false e1 := by
  simp [uAndB, h, UQ.bind]
theorem odds_mx {W : Int} : ∀ x, x ∈ odds W → mx x ≤ 6 := fun x hx => by
  simp only [odds, List.mem_cons, List.not_mem_nil, or_false] at hx
  rcases hx with z | z | z | z | z | z | z | z | z | z | z | z | z | z | z | z | z | z | z | z | z | z | z | z | z | z | z | z <;> subst z <;> simp [mx, mxs]
theorem odd_ok2 {p : U} {W : Int} (P : Urn p) (h : W.natAbs < 1000) : ∃ x p', Ot 2 100 6 x ∧ Urn p' ∧ Gives (uf__law_odd_i0 [p, .int W]) x p' := by
  obtain ⟨x, p', hx, P', r, e⟩ := of_ok (xs := odds W) P (by simp [odds]) (by simp [odds])
  have t := odds_ok h x hx
  refine ⟨x, p', ⟨t.w, t.d, t.c, odds_mx x hx⟩, P', ?_⟩
  have row : (uBin uAdd (.now (uV 2)) (.now (uLst (uCons (uC (.str "not_before")) (uCons (uC (.str "given_up")) (uCons (uC (.str "first")) (uCons (uC (.str "after")) (uCons (uC (.str "later")) (uCons (uBin uAdd (.now (uTup (uCons (uC (.str "last")) (uNil)))) (.now (uBin uMul (.now (uTup (uCons (uTup (uCons (uC (.str "rest")) (uCons (uC (.int 1)) (uNil)))) (uNil)))) (.now (uC (.int 5)))))) (uNil)))))))))) [some p, some (.int W), some (.lst ((odds W).take 22))] = .ok (.lst (odds W)) [some p, some (.int W), some (.lst ((odds W).take 22))] := rfl
  have c : uCall [0, 1] [] [.io 0, .val (uBin uAdd (.now (uV 2)) (.now (uLst (uCons (uC (.str "not_before")) (uCons (uC (.str "given_up")) (uCons (uC (.str "first")) (uCons (uC (.str "after")) (uCons (uC (.str "later")) (uCons (uBin uAdd (.now (uTup (uCons (uC (.str "last")) (uNil)))) (.now (uBin uMul (.now (uTup (uCons (uTup (uCons (uC (.str "rest")) (uCons (uC (.int 1)) (uNil)))) (uNil)))) (.now (uC (.int 5)))))) (uNil))))))))))] [(0, 0)] uf__law_of_i0 [some p, some (.int W), some (.lst ((odds W).take 22))] = .ok x [some p', some (.int W), some (.lst ((odds W).take 22))] := call_pot rfl row rfl e
  exact ⟨_, run_rt rfl (seq_nx (set_ok (u := .lst ((odds W).take 16)) rfl) (seq_nx (set_ok (u := .lst ((odds W).take 22)) rfl) (seq_rt (ret_ok c))))⟩
noncomputable def oC (G : List U → UQ U) : UB := (uAndB (uOf (.now (uUn (uIsi itab [.ty "tuple"]) (.now (uV 1))))) (uAndB (uCmp uNe0 (.now (uV 1)) (.now (uTup (uNil)))) (uCmp uGt (.now (uCall [0, 1] [] [.io 0, .val (uC (.int 5))] [(0, 0)] uf__law_take_i0)) (.now (uC (.int 0))))))
abbrev E0 (p x : U) (W : Int) : UV := Eo p x W none none none none
theorem cond_ok {p x : U} {W : Int} {G : List U → UQ U} (P : Urn p) (h : wd x) : ∃ p1, Urn p1 ∧ (oC G (E0 p x W) = .ok false (E0 p1 x W) ∨ (oC G (E0 p x W) = .ok true (E0 p1 x W) ∧ ∃ y ys, x = .tup (y :: ys))) := by
  have nt : uIsi itab [.ty "tuple"] x = some (.bl false) → oC G (E0 p x W) = .ok false (E0 p x W) := fun hb => and_no (of_bl (un_ok rfl hb))
  cases x with
  | fl _ => exact h.elim
  | exc _ _ => exact h.elim
  | non => exact ⟨p, P, .inl (nt rfl)⟩
  | bl b => exact ⟨p, P, .inl (nt rfl)⟩
  | int i => exact ⟨p, P, .inl (nt rfl)⟩
  | str i => exact ⟨p, P, .inl (nt rfl)⟩
  | lst i => exact ⟨p, P, .inl (nt rfl)⟩
  | emp => exact ⟨p, P, .inl (nt rfl)⟩
  | tup xs =>
    cases xs with
    | nil => exact ⟨p, P, .inl (and_yes (of_bl (b := true) (un_ok rfl rfl)) (and_no (cmp_ok rfl (tup_ok nil_ok2 (by simp)) rfl)))⟩
    | cons y ys =>
      obtain ⟨r, p1, r0, r1, P1, s1, e1⟩ := take_ok (n := 5) P (by decide) (by decide)
      have c1 : uCmp uGt (.now (uCall [0, 1] [] [.io 0, .val (uC (.int 5))] [(0, 0)] uf__law_take_i0)) (.now (uC (.int 0))) (E0 p (.tup (y :: ys)) W) = .ok (decide (0 < r)) (E0 p1 (.tup (y :: ys)) W) := cmp_ok (call_pot rfl rfl rfl e1) rfl rfl
      have c : oC G (E0 p (.tup (y :: ys)) W) = .ok (decide (0 < r)) (E0 p1 (.tup (y :: ys)) W) := and_yes (of_bl (b := true) (un_ok rfl rfl)) (and_yes (cmp_ok (r := true) rfl (tup_ok nil_ok2 (by simp)) rfl) c1)
      refine ⟨p1, P1, ?_⟩
      by_cases hr : 0 < r
      · rw [decide_eq_true hr] at c; exact .inr ⟨c, y, ys, rfl⟩
      · rw [decide_eq_false hr] at c; exact .inl c
theorem ix_at {p : U} {W : Int} {a b d : Option U} {xs : List U} {i : Nat} (h : i < xs.length) : uBin uIx (.now (uV 1)) (.now (uV 5)) (Eo p (.tup xs) W a b (some (.int i)) d) = .ok xs[i] (Eo p (.tup xs) W a b (some (.int i)) d) := by
  refine bin_ok rfl rfl ?_
  have : (i : Int) < (xs.length : Int) := by omega
  simp [uIx, L2.atI, L2.ixN, uItems, this, h]
theorem call_oth {G : List U → UQ U} {p x u p' : U} {W : Int} {a b c d : Option U} {q : UE} {y : U} {r : UV} (hq : q (Eo p x W a b c d) = .ok y (Eo p x W a b c d)) (hG : G [p, y, .int W] = .ok u (some p' :: r)) : uCall [0, 1, 2] [] [.io 0, .val q, .val (uV 2)] [(0, 0)] G (Eo p x W a b c d) = .ok u (Eo p' x W a b c d) := call_pot3 (q2 := uV 2) rfl hq rfl rfl hG
end P
namespace P
open PySem PySem.Spec PyProof.Rows L2 Z
theorem len_ok {p : U} {W : Int} {a b c d : Option U} {xs : List U} : uUn uLen (.now (uV 1)) (Eo p (.tup xs) W a b c d) = .ok (.int xs.length) (Eo p (.tup xs) W a b c d) := un_ok rfl len_t
theorem oth_step {G : List U → UQ U} {p x : U} {W : Int} (P : Urn p) (hw : wd x) (hm : mx x ≤ 900) (w1 : W.natAbs < 1000) (ih : ∀ p xs y, x = .tup xs → y ∈ xs → Urn p → OtA y (G [p, y, .int W])) : OtA x (uRun 7 (ub__law_otherwise_i0 G) [p, x, .int W]) := by
  obtain ⟨p1, P1, hc⟩ := cond_ok (W := W) (G := G) P hw
  rcases hc with hc | ⟨hc, y, ys, rfl⟩
  · -- way and odd
    obtain ⟨way, p2, v0, v1, P2, s2, e2⟩ := take_ok (n := 7) P1 (by decide) (by decide)
    obtain ⟨o, p3, ho, P3, s3, e3⟩ := odd_ok2 P2 w1
    have k2 : uCall [0, 1] [] [.io 0, .val (uC (.int 7))] [(0, 0)] uf__law_take_i0 (E0 p1 x W) = .ok (.int way) (E0 p2 x W) := call_pot rfl rfl rfl e2
    have k3 : uCall [0, 1] [] [.io 0, .val (uV 2)] [(0, 0)] uf__law_odd_i0 (E0 p2 x W) = .ok o (E0 p3 x W) := call_pot (e := E0 p2 x W) (e1 := E0 p2 x W) (q := uV 2) rfl rfl rfl e3
    have par : uPar 3 4 [.val (uCall [0, 1] [] [.io 0, .val (uC (.int 7))] [(0, 0)] uf__law_take_i0), .val (uCall [0, 1] [] [.io 0, .val (uV 2)] [(0, 0)] uf__law_odd_i0)] (E0 p1 x W) = .nx (Eo p3 x W (some (.int way)) (some o) none none) := par_vv k2 k3
    have odd_end : OtA x (.ok o [some p3] : UQ U) := ⟨o, p3, ⟨ho.w, by have := ho.d; omega, by have := ho.s; omega, by have := ho.m; omega⟩, P3, _, rfl⟩
    have bad_way : uOrB (uNotB (uOf (.now (uUn (uIsi itab [.ty "tuple"]) (.now (uV 1)))))) (uCmp uGt (.now (uV 3)) (.now (uC (.int 4)))) (Eo p3 x W (some (.int way)) (some o) none none) = .ok true (Eo p3 x W (some (.int way)) (some o) none none) → OtA x (uRun 7 (ub__law_otherwise_i0 G) [p, x, .int W]) := fun h => by
      refine ⟨o, p3, ⟨ho.w, by have := ho.d; omega, by have := ho.s; omega, by have := ho.m; omega⟩, P3, [some x, some (.int W), some (.int way), some o, none, none], run_rt rfl ?_⟩
      exact seq_nx (if_no hc rfl) (seq_nx par (seq_rt (if_yes h (seq_rt (ret_ok rfl)))))
    have nt : uIsi itab [.ty "tuple"] x = some (.bl false) → OtA x (uRun 7 (ub__law_otherwise_i0 G) [p, x, .int W]) := fun hb => bad_way (or_yes (not_b (b := false) (of_bl (un_ok rfl hb))))
    cases x with
    | fl _ => exact hw.elim
    | exc _ _ => exact hw.elim
    | non => exact nt rfl
    | bl b => exact nt rfl
    | int i => exact nt rfl
    | str i => exact nt rfl
    | lst i => exact nt rfl
    | emp => exact nt rfl
    | tup xs =>
      have cw : uCmp uGt (.now (uV 3)) (.now (uC (.int 4))) (Eo p3 (.tup xs) W (some (.int way)) (some o) none none) = .ok (decide (4 < way)) (Eo p3 (.tup xs) W (some (.int way)) (some o) none none) := cmp_ok rfl rfl rfl
      by_cases hwy : 4 < way
      · rw [decide_eq_true hwy] at cw
        exact bad_way (or_no (not_b (b := true) (of_bl (un_ok rfl rfl))) cw)
      · rw [decide_eq_false hwy] at cw
        simp only [mx] at hm
        have hl : xs.length ≤ 900 := by omega
        obtain ⟨at', p4, a0, a1, P4, s4, e4⟩ := take_ok (n := (xs.length : Int) + 1) P3 (by omega) (by omega)
        obtain ⟨i, rfl⟩ : ∃ i : Nat, at' = (i : Int) := ⟨at'.toNat, by omega⟩
        have hi : i ≤ xs.length := by omega
        have c4 : uCall [0, 1] [] [.io 0, .val (uBin uAdd (.now (uUn uLen (.now (uV 1)))) (.now (uC (.int 1))))] [(0, 0)] uf__law_take_i0 (Eo p3 (.tup xs) W (some (.int way)) (some o) none none) = .ok (.int i) (Eo p4 (.tup xs) W (some (.int way)) (some o) none none) := call_pot rfl (bin_ok len_ok rfl rfl) rfl e4
        let e5 := Eo p4 (.tup xs) W (some (.int way)) (some o) (some (.int i)) none
        have d1 : uBin uAdd (.now (uSl (.now (uV 1)) (uC .non) (uInt1 (uV 5)))) (.now (uSl (.now (uV 1)) (uInt1 (uBin uAdd (.now (uV 5)) (.now (uC (.int 1))))) (uC .non))) e5 = .ok (.tup (xs.take i ++ xs.drop (i + 1))) e5 := add_t (sl_to hi rfl) (sl_next hi rfl) (by rw [List.length_take, List.length_drop]; omega)
        have d2 : uBin uAdd (.now (uBin uAdd (.now (uSl (.now (uV 1)) (uC .non) (uInt1 (uV 5)))) (.now (uTup (uCons (uV 4) (uNil)))))) (.now (uSl (.now (uV 1)) (uInt1 (uV 5)) (uC .non))) e5 = .ok (.tup ((xs.take i ++ [o]) ++ xs.drop i)) e5 := add_t (add_t (sl_to hi rfl) (tup_ok (Z.cons_ok rfl nil_ok2) (by simp)) (by simp only [List.length_take, List.length_cons, List.length_nil]; omega)) (sl_from hi rfl) (by simp only [List.length_append, List.length_take, List.length_drop, List.length_cons, List.length_nil]; omega)
        have d3 : uBin uAdd (.now (uBin uAdd (.now (uSl (.now (uV 1)) (uC .non) (uInt1 (uV 5)))) (.now (uSl (.now (uV 1)) (uInt1 (uV 5)) (uInt1 (uBin uAdd (.now (uV 5)) (.now (uC (.int 1))))))))) (.now (uSl (.now (uV 1)) (uInt1 (uV 5)) (uC .non))) e5 = .ok (.tup ((xs.take i ++ (xs.drop i).take 1) ++ xs.drop i)) e5 := add_t (add_t (sl_to hi rfl) (sl_one hi rfl) (by simp only [List.length_take, List.length_drop]; omega)) (sl_from hi rfl) (by simp only [List.length_append, List.length_take, List.length_drop]; omega)
        let A : List U := [.tup (xs.take i ++ xs.drop (i + 1)), .tup ((xs.take i ++ [o]) ++ xs.drop i), .tup ((xs.take i ++ (xs.drop i).take 1) ++ xs.drop i)]
        let B : List U := A ++ [.lst xs, .tup xs.reverse]
        let e6 := Eo p4 (.tup xs) W (some (.int way)) (some o) (some (.int i)) (some (.lst A))
        have l6 : uBin uAdd (.now (uV 6)) (.now (uLst (uCons (uUn uToList (.now (uV 1))) (uCons (uUn uRevT (.now (uV 1))) (uNil))))) e6 = .ok (.lst B) e6 := bin_ok rfl (lst_ok (Z.cons_ok (un_ok rfl rfl) (Z.cons_ok (un_ok rfl rfl) nil_ok2)) (by simp)) rfl
        obtain ⟨j, rfl⟩ : ∃ j : Nat, way = (j : Int) := ⟨way.toNat, by omega⟩
        have hj : j < B.length := by show j < 5; omega
        have r6 : uBin uIx (.now (uBin uAdd (.now (uV 6)) (.now (uLst (uCons (uUn uToList (.now (uV 1))) (uCons (uUn uRevT (.now (uV 1))) (uNil))))))) (.now (uV 3)) e6 = .ok B[j] e6 := by
          refine bin_ok l6 rfl ?_
          have : (j : Int) < (B.length : Int) := by omega
          generalize B = B' at hj this
          simp [uIx, L2.atI, L2.ixN, uItems, this, hj]
        have bounds : Ot (dep (.tup xs) + 3) (2 * sz (.tup xs) + 200) (max (mx (.tup xs)) 6 + 1) B[j] := by
          have hB : B[j] ∈ B := List.getElem_mem _
          have hxs : xs.take i ++ xs.drop i = xs := List.take_append_drop i xs
          have w0 : wds xs := hw
          have w2 : wds (xs.take i ++ xs.drop i) := by rw [hxs]; exact w0
          obtain ⟨wt, wdr⟩ := wds_l w2
          have z1 : max (deps (xs.take i)) (deps (xs.drop i)) = deps xs := by rw [← deps_app, hxs]
          have z2 : szs (xs.take i) + szs (xs.drop i) = szs xs := by rw [← szs_app, hxs]
          have z3 : max (mxs (xs.take i)) (mxs (xs.drop i)) = mxs xs := by rw [← mxs_app, hxs]
          have q1 : ∀ k (l : List U), wds l → wds (l.drop k) ∧ deps (l.drop k) ≤ deps l ∧ szs (l.drop k) ≤ szs l ∧ mxs (l.drop k) ≤ mxs l := fun k l hl => by
            have h := List.take_append_drop k l
            have a := deps_app (l.take k) (l.drop k)
            have b := szs_app (l.take k) (l.drop k)
            have c := mxs_app (l.take k) (l.drop k)
            rw [h] at a b c
            exact ⟨(wds_l (by rw [h]; exact hl)).2, by omega, by omega, by omega⟩
          have q2 : ∀ k (l : List U), wds l → wds (l.take k) ∧ deps (l.take k) ≤ deps l ∧ szs (l.take k) ≤ szs l ∧ mxs (l.take k) ≤ mxs l := fun k l hl => by
            have h := List.take_append_drop k l
            have a := deps_app (l.take k) (l.drop k)
            have b := szs_app (l.take k) (l.drop k)
            have c := mxs_app (l.take k) (l.drop k)
            rw [h] at a b c
            exact ⟨(wds_l (by rw [h]; exact hl)).1, by omega, by omega, by omega⟩
          have hd : xs.drop (i + 1) = (xs.drop i).drop 1 := by rw [List.drop_drop]
          obtain ⟨u1, u2, u3, u4⟩ := q1 1 _ wdr
          obtain ⟨v1, v2, v3, v4⟩ := q2 1 _ wdr
          obtain ⟨rv1, rv2, rv3, rv4⟩ := revs xs
          have o1 := ho.d
          have o2 := ho.s
          have o3 := ho.m
          have n1 := List.length_take (i := i) (l := xs)
          have n2 := List.length_drop (i := i) (l := xs)
          have n3 : ((xs.drop i).take 1).length ≤ 1 := by rw [List.length_take]; omega
          have n4 : ((xs.drop i).drop 1).length = (xs.drop i).length - 1 := by rw [List.length_drop]
          generalize hT : xs.take i = T at *
          generalize hD : xs.drop i = D at *
          have lB : B = [.tup (T ++ D.drop 1), .tup ((T ++ [o]) ++ D), .tup ((T ++ D.take 1) ++ D), .lst xs, .tup xs.reverse] := by
            show [_, _, _, _, _] = _
            rw [hT, hD, hd]
          generalize B[j] = v at hB ⊢
          rw [lB] at hB
          simp only [List.mem_cons, List.not_mem_nil, or_false] at hB
          rcases hB with z | z | z | z | z <;> subst z
          · exact ⟨wds_app wt u1, by simp only [dep, deps_app]; omega, by simp only [sz, szs_app]; omega, by simp only [mx, mxs_app, List.length_append]; omega⟩
          · exact ⟨wds_app (wds_app wt ⟨ho.w, trivial⟩) wdr, by simp only [dep, deps_app, deps]; omega, by simp only [sz, szs_app, szs]; omega, by simp only [mx, mxs_app, mxs, List.length_append, List.length_cons, List.length_nil]; omega⟩
          · exact ⟨wds_app (wds_app wt v1) wdr, by simp only [dep, deps_app]; omega, by simp only [sz, szs_app]; omega, by simp only [mx, mxs_app, List.length_append]; omega⟩
          · exact ⟨w0, by simp only [dep]; omega, by simp only [sz]; omega, by simp only [mx]; omega⟩
          · exact ⟨rv1 w0, by simp only [dep, rv2]; omega, by simp only [sz, rv3]; omega, by simp only [mx, rv4, List.length_reverse]; omega⟩
        refine ⟨B[j], p4, bounds, P4, [some (.tup xs), some (.int W), some (.int j), some o, some (.int i), some (.lst A)], run_rt rfl ?_⟩
        exact seq_nx (if_no hc rfl) (seq_nx par (seq_nx (if_no (or_no (not_b (b := true) (of_bl (un_ok rfl rfl))) cw) rfl) (seq_nx (set_ok c4) (seq_nx (set_ok (lst_ok (Z.cons_ok d1 (Z.cons_ok d2 (Z.cons_ok d3 nil_ok2))) (by simp))) (seq_rt (ret_ok r6))))))
  · -- a part otherwise
    generalize hxs : y :: ys = xs at *
    have hl0 : 1 ≤ xs.length := by rw [← hxs]; simp
    simp only [mx] at hm
    obtain ⟨at', p2, a0, a1, P2, s2, e2⟩ := take_ok (n := (xs.length : Int)) P1 (by omega) (by omega)
    obtain ⟨i, rfl⟩ : ∃ i : Nat, at' = (i : Int) := ⟨at'.toNat, by omega⟩
    have hi : i < xs.length := by omega
    have c2 : uCall [0, 1] [] [.io 0, .val (uUn uLen (.now (uV 1)))] [(0, 0)] uf__law_take_i0 (E0 p1 (.tup xs) W) = .ok (.int i) (E0 p2 (.tup xs) W) := call_pot rfl len_ok rfl e2
    obtain ⟨v, p3, hv, P3, s3, e3⟩ := ih p2 xs xs[i] rfl (List.getElem_mem _) P2
    have c3 := call_oth (a := none) (b := none) (c := some (.int (i : Nat))) (d := none) (ix_at hi) e3
    have tt : uTup (uCons (uCall [0, 1, 2] [] [.io 0, .val (uBin uIx (.now (uV 1)) (.now (uV 5))), .val (uV 2)] [(0, 0)] G) (uNil)) (Eo p2 (.tup xs) W none none (some (.int i)) none) = .ok (.tup [v]) (Eo p3 (.tup xs) W none none (some (.int i)) none) := tup_ok (Z.cons_ok c3 nil_ok2) (by simp)
    have whole : uBin uAdd (.now (uBin uAdd (.now (uSl (.now (uV 1)) (uC .non) (uInt1 (uV 5)))) (.now (uTup (uCons (uCall [0, 1, 2] [] [.io 0, .val (uBin uIx (.now (uV 1)) (.now (uV 5))), .val (uV 2)] [(0, 0)] G) (uNil)))))) (.now (uSl (.now (uV 1)) (uInt1 (uBin uAdd (.now (uV 5)) (.now (uC (.int 1))))) (uC .non))) (Eo p2 (.tup xs) W none none (some (.int i)) none) = .ok (.tup ((xs.take i ++ [v]) ++ xs.drop (i + 1))) (Eo p3 (.tup xs) W none none (some (.int i)) none) :=
      add_t (add_t (sl_to (by omega) rfl) tt (by simp only [List.length_take, List.length_cons, List.length_nil]; omega)) (sl_next (by omega) rfl) (by simp only [List.length_append, List.length_take, List.length_drop, List.length_cons, List.length_nil]; omega)
    obtain ⟨A, C, B, q1, q2, q3, q4, q5, q6⟩ := cut3 hi
    rw [q2, q4] at whole
    rw [q6] at hv
    have b1 := hv.d
    have b2 := hv.s
    have b3 := hv.m
    have wx : wds (A ++ C :: B) := by rw [← q1]; exact hw
    obtain ⟨wa, wc, wb⟩ := wds_l wx
    refine ⟨_, p3, ?_, P3, _, run_rt rfl (seq_rt (if_yes hc (seq_nx (set_ok c2) (seq_rt (ret_ok whole)))))⟩
    rw [q1]
    refine ⟨wds_app (wds_app wa ⟨hv.w, trivial⟩) wb, ?_, ?_, ?_⟩
    · simp only [dep, deps_app, deps]; omega
    · simp only [sz, szs_app, szs]; omega
    · simp only [mx, mxs_app, mxs, List.length_append, List.length_cons, List.length_nil]; omega
theorem oth_ok {W : Int} (w1 : W.natAbs < 1000) : ∀ (n : Nat) (p x : U), dep x < n → Urn p → wd x → mx x ≤ 900 → OtA x (uf__law_otherwise_i0 n [p, x, .int W])
  | 0, _, _, h, _, _, _ => absurd h (Nat.not_lt_zero _)
  | n + 1, p, x, hd, P, hw, hm => oth_step P hw hm w1 fun p xs y z hy Q => by
    subst z
    have h1 := deps_mem hy
    have h2 := mxs_mem hy
    simp only [dep] at hd
    simp only [mx] at hm
    exact oth_ok w1 n p y (by omega) Q (wds_mem hw hy) (by omega)
end P
namespace P
open PySem PySem.Spec PyProof.Rows L2 Z
mutual
theorem mx_sz : ∀ x : U, mx x ≤ sz x
  | .tup xs => by have a := mxs_szs xs; have b := szs_len xs; simp only [mx, sz]; omega
  | .lst xs => by have a := mxs_szs xs; have b := szs_len xs; simp only [mx, sz]; omega
  | .non => Nat.zero_le _
  | .bl _ => Nat.zero_le _
  | .int _ => Nat.zero_le _
  | .str _ => Nat.zero_le _
  | .fl _ => Nat.zero_le _
  | .emp => Nat.zero_le _
  | .exc _ _ => Nat.zero_le _
theorem mxs_szs : ∀ xs : List U, mxs xs ≤ szs xs
  | [] => Nat.le_refl _
  | x :: xs => by have a := mx_sz x; have b := mxs_szs xs; simp only [mxs, szs]; omega
end
inductive F2 (R : U → U → Prop) : List U → List U → Prop where
  | nil : F2 R [] []
  | cons {k x : U} {ks xs : List U} : R k x → F2 R ks xs → F2 R (k :: ks) (x :: xs)
/-- rows drawn one by one -/
theorem lc_draw {R : U → U → Prop} {V : U → Prop} {E : U → UV} {i : Nat} {el : UE} (hE : ∀ p, (E p).set i none = E p) : ∀ (ks acc : List U) (p : U), acc.length + ks.length < 100000 → V p → (∀ p k, k ∈ ks → V p → ∃ x p', R k x ∧ V p' ∧ el ((E p).set i (some k)) = .ok x ((E p').set i (some k))) →
    ∃ xs p', F2 R ks xs ∧ V p' ∧ lcU (.nm i) uTrue el [i] ks (E p) acc = some (acc ++ xs, E p')
  | [], acc, p, _, hp, _ => ⟨[], p, .nil, hp, by simp [lcU]⟩
  | k :: ks, acc, p, hl, hp, h => by
    simp only [List.length_cons] at hl
    obtain ⟨x, p1, r1, v1, e1⟩ := h p k List.mem_cons_self hp
    obtain ⟨xs, p2, r2, v2, e2⟩ := lc_draw hE ks (acc ++ [x]) p1 (by simp only [List.length_append, List.length_cons, List.length_nil]; omega) v1 fun p k hk => h p k (List.mem_cons_of_mem _ hk)
    refine ⟨x :: xs, p2, .cons r1 r2, v2, ?_⟩
    have ha : acc.length < 100000 := by omega
    simp [lcU, Pat.putU, uTrue, e1, ha, wipe1 (hE p1), e2]
/-- a net of so many joins is asked right, and bent ones too -/
structure Gd (x : U) : Prop where
  w : wd x
  d : dep x ≤ 15
  s : sz x ≤ 851
theorem Ne.gd {W : Int} {c : Nat} {x : U} (h : Ne W c x) (hc : c ≤ 14) : Gd x := ⟨h.w, by have := h.d; omega, by have := h.s; omega⟩
theorem Gd.th {x : U} (h : Gd x) : Th 38 50000 x := ⟨h.w, by have := h.d; omega, by have := h.s; omega⟩
theorem bent_ok {p x : U} {W : Int} (P : Urn p) (h : Gd x) (w1 : W.natAbs < 1000) : ∃ y p', Ot 18 1902 852 y ∧ Urn p' ∧ Gives (uf__law_otherwise_i0 60 [p, x, .int W]) y p' := by
  have m := mx_sz x
  have h1 := h.d
  have h2 := h.s
  obtain ⟨y, p', o, P', g⟩ := oth_ok w1 60 p x (by omega) P h.w (by omega)
  exact ⟨y, p', ⟨o.w, by have := o.d; omega, by have := o.s; omega, by have := o.m; omega⟩, P', g⟩
theorem bent_ok2 {p x : U} {W : Int} (P : Urn p) (h : Ot 18 1902 852 x) (w1 : W.natAbs < 1000) : ∃ y p', Ot 21 4004 853 y ∧ Urn p' ∧ Gives (uf__law_otherwise_i0 60 [p, x, .int W]) y p' := by
  have h1 := h.d
  have h2 := h.s
  have h3 := h.m
  obtain ⟨y, p', o, P', g⟩ := oth_ok w1 60 p x (by omega) P h.w (by omega)
  exact ⟨y, p', ⟨o.w, by have := o.d; omega, by have := o.s; omega, by have := o.m; omega⟩, P', g⟩
theorem Ot.th {x : U} (h : Ot 21 4004 853 x) : Th 38 50000 x := ⟨h.w, by have := h.d; omega, by have := h.s; omega⟩
/-! ### the loops of the law's turn -/
abbrev Er (p : U) (W : Int) (l : List U) (x : Option U) (t b n : Option U) : UV := [some p, some (.int W), some (.lst l), x, t, b, n]
theorem asked_call {p : U} {W : Int} {l : List U} {x t b n : Option U} {k : Int} {v : U} {f g : UE} (hf : f (Er p W l x t b n) = .ok v (Er p W l x t b n)) (hg : g (Er p W l x t b n) = .ok (.int k) (Er p W l x t b n)) (h : Th 38 50000 v) : uCall [0, 1] [] [.val f, .val g] [] uf__law_asked_right (Er p W l x t b n) = .ok (.bl true) (Er p W l x t b n) := by
  obtain ⟨r, e⟩ := asked_ok (k := k) h
  exact call2v hf hg e
noncomputable def bent1 : UE := uCall [0, 1, 2] [] [.io 0, .val (uV 3), .val (uV 1)] [(0, 0)] (uf__law_otherwise_i0 fuel__law_otherwise)
noncomputable def bent2 : UE := uCall [0, 1, 2] [] [.io 0, .val (uV 5), .val (uV 1)] [(0, 0)] (uf__law_otherwise_i0 fuel__law_otherwise)
noncomputable def inbody : UF := (uSeq (uSet 5 bent1) (uSeq (uIfS (uCmp uEq (.now (uCall [0, 1] [] [.io 0, .val (uC (.int 4))] [(0, 0)] uf__law_take_i0)) (.now (uC (.int 0)))) (uSeq (uSet 5 bent2) (uNop)) (uNop)) (uSeq (uIfS (uNotB (uOf (.now (uCall [0, 1] [] [.val (uV 5), .val (uV 1)] [] uf__law_asked_right)))) (uSeq (uReturn (uC (.bl false))) (uNop)) (uNop)) (uNop))))
theorem in_step {p x : U} {W : Int} {l : List U} {t b n : Option U} (P : Urn p) (h : Gd x) (w1 : W.natAbs < 1000) : ∃ p' b', Urn p' ∧ inbody (Er p W l (some x) t b n) = .nx (Er p' W l (some x) t b' n) := by
  obtain ⟨y, p1, hy, P1, r1, e1⟩ := bent_ok P h w1
  have c1 : bent1 (Er p W l (some x) t b n) = .ok y (Er p1 W l (some x) t b n) := call_pot3 (e := Er p W l (some x) t b n) (e1 := Er p W l (some x) t b n) (e2 := Er p W l (some x) t b n) (q := uV 3) (q2 := uV 1) rfl rfl rfl rfl e1
  obtain ⟨r, p2, r0, r1, P2, s2, e2⟩ := take_ok (n := 4) P1 (by decide) (by decide)
  have c2 : uCmp uEq (.now (uCall [0, 1] [] [.io 0, .val (uC (.int 4))] [(0, 0)] uf__law_take_i0)) (.now (uC (.int 0))) (Er p1 W l (some x) t (some y) n) = .ok (r == 0) (Er p2 W l (some x) t (some y) n) := cmp_ok (call_pot rfl rfl rfl e2) rfl eqI
  have fin : ∀ (q v : U), Urn q → Th 38 50000 v → uSeq (uIfS (uNotB (uOf (.now (uCall [0, 1] [] [.val (uV 5), .val (uV 1)] [] uf__law_asked_right)))) (uSeq (uReturn (uC (.bl false))) (uNop)) (uNop)) (uNop) (Er q W l (some x) t (some v) n) = .nx (Er q W l (some x) t (some v) n) := fun q v Q hv => seq_nx (if_no (not_b (b := true) (of_bl (asked_call (k := W) (v := v) rfl rfl hv))) rfl) rfl
  cases hr : (r == 0) with
  | false =>
    rw [hr] at c2
    exact ⟨p2, some y, P2, seq_nx (set_ok c1) (seq_nx (if_no c2 rfl) (fin p2 y P2 ⟨hy.w, by have := hy.d; omega, by have := hy.s; omega⟩))⟩
  | true =>
    rw [hr] at c2
    obtain ⟨z, p3, hz, P3, r3, e3⟩ := bent_ok2 P2 hy w1
    have c3 : bent2 (Er p2 W l (some x) t (some y) n) = .ok z (Er p3 W l (some x) t (some y) n) := call_pot3 (e := Er p2 W l (some x) t (some y) n) (e1 := Er p2 W l (some x) t (some y) n) (e2 := Er p2 W l (some x) t (some y) n) (q := uV 5) (q2 := uV 1) rfl rfl rfl rfl e3
    exact ⟨p3, some z, P3, seq_nx (set_ok c1) (seq_nx (if_yes c2 (seq_nx (set_ok c3) rfl)) (fin p3 z P3 hz.th))⟩
theorem in_for {x : U} {W : Int} {l : List U} {n : Option U} (h : Gd x) (w1 : W.natAbs < 1000) : ∀ (ks : List U) (p : U) (t b : Option U), Urn p → ∃ p' t' b', Urn p' ∧ forU (.nm 4) inbody ks (Er p W l (some x) t b n) = .nx (Er p' W l (some x) t' b' n)
  | [], p, t, b, P => ⟨p, t, b, P, by simp [forU]⟩
  | k :: ks, p, t, b, P => by
    obtain ⟨p1, b1, P1, e1⟩ := in_step (l := l) (t := some k) (b := b) (n := n) P h w1
    obtain ⟨p2, t2, b2, P2, e2⟩ := in_for h w1 ks p1 (some k) b1 P1
    exact ⟨p2, t2, b2, P2, (for_cons2 rfl e1).trans e2⟩
noncomputable def outbody : UF := (uSeq (uIfS (uNotB (uOf (.now (uUn uAll (.now (uLc (uRng (uC (.int 7))) (.nm 6) [6] (uTrue) (uCall [0, 1] [] [.val (uV 3), .val (uV 6)] [] uf__law_asked_right))))))) (uSeq (uReturn (uC (.bl false))) (uNop)) (uNop)) (uSeq (uFor (uRng (uC (.int 20))) (.nm 4) inbody) (uNop)))
theorem all_true {α : Type} : ∀ xs : List α, uAll (.lst (xs.map fun _ => .bl true)) = some (.bl true) := fun xs => by
  have : blsU (xs.map fun _ => U.bl true) = some (xs.map fun _ => true) := by
    induction xs with
    | nil => rfl
    | cons x xs ih => simp [blsU, ih]
  simp [uAll, uList?, this]
theorem rngU_map (n : Nat) : rngU 0 n = (List.range n).map fun (i : Nat) => U.int (i : Int) := by
  unfold rngU
  simp
theorem out_step {p x : U} {W : Int} {l : List U} {t b : Option U} (P : Urn p) (h : Gd x) (w1 : W.natAbs < 1000) : ∃ p' t' b', Urn p' ∧ outbody (Er p W l (some x) t b none) = .nx (Er p' W l (some x) t' b' none) := by
  have rg : uRng (uC (.int 7)) (Er p W l (some x) t b none) = .ok ((List.range 7).map fun (i : Nat) => U.int (i : Int)) (Er p W l (some x) t b none) := by
    rw [← rngU_map]
    exact rng_ok rfl (by decide)
  have c := lc_map (i := 6) (el := uCall [0, 1] [] [.val (uV 3), .val (uV 6)] [] uf__law_asked_right) (e := Er p W l (some x) t b none) (fun i : Nat => U.int (i : Int)) (fun _ => .bl true) rfl (List.range 7) [] (by simp) fun k _ => asked_call (k := (k : Int)) (v := x) rfl rfl h.th
  have c7 : uUn uAll (.now (uLc (uRng (uC (.int 7))) (.nm 6) [6] (uTrue) (uCall [0, 1] [] [.val (uV 3), .val (uV 6)] [] uf__law_asked_right))) (Er p W l (some x) t b none) = .ok (.bl true) (Er p W l (some x) t b none) := un_ok (lc_ok2 rg c) (all_true _)
  obtain ⟨p2, t2, b2, P2, e2⟩ := in_for (l := l) (n := none) h w1 (rngU 0 20) p t b P
  have r20 : uRng (uC (.int 20)) (Er p W l (some x) t b none) = .ok (rngU 0 20) (Er p W l (some x) t b none) := rng_ok rfl (by decide)
  have f20 : uFor (uRng (uC (.int 20))) (.nm 4) inbody (Er p W l (some x) t b none) = .nx (Er p2 W l (some x) t2 b2 none) := by
    unfold uFor
    rw [r20]
    exact e2
  exact ⟨p2, t2, b2, P2, seq_nx (if_no (not_b (b := true) (of_bl c7)) rfl) (seq_nx f20 rfl)⟩
theorem out_for {W : Int} {l : List U} (w1 : W.natAbs < 1000) : ∀ (xs : List U) (p : U) (x t b : Option U), (∀ x, x ∈ xs → Gd x) → Urn p → ∃ p' x' t' b', Urn p' ∧ forU (.nm 3) outbody xs (Er p W l x t b none) = .nx (Er p' W l x' t' b' none)
  | [], p, x, t, b, _, P => ⟨p, x, t, b, P, by simp [forU]⟩
  | y :: xs, p, x, t, b, h, P => by
    obtain ⟨p1, t1, b1, P1, e1⟩ := out_step (l := l) (t := t) (b := b) P (h y List.mem_cons_self) w1
    obtain ⟨p2, x2, t2, b2, P2, e2⟩ := out_for w1 xs p1 (some y) t1 b1 (fun z hz => h z (List.mem_cons_of_mem _ hz)) P1
    exact ⟨p2, x2, t2, b2, P2, (for_cons2 rfl e1).trans e2⟩
end P
namespace P
open PySem PySem.Spec PyProof.Rows L2 Z
abbrev En2 (p : U) (W : Int) (l : Option U) (t : Option U) : UV := [some p, some (.int W), l, none, t, none, none]
theorem F2.len {R : U → U → Prop} : ∀ {a b : List U}, F2 R a b → b.length = a.length
  | _, _, .nil => rfl
  | _, _, .cons _ t => by simp [F2.len t]
theorem f2_true : ∀ {ks xs : List U}, F2 (fun _ x => x = .bl true) ks xs → xs = xs.map fun _ => U.bl true
  | _, _, .nil => rfl
  | _, _, .cons h t => by
    have := f2_true t
    rw [List.map_cons, ← this, h]
theorem net_draw {p : U} {W : Int} (P : Urn p) (w0 : 0 < W) (w1 : W < 1000) : ∃ x p' c, c ≤ 12 ∧ Ne W c x ∧ Urn p' ∧ uCall [0, 1, 2] [] [.io 0, .val (uV 1), .fresh (uLst (uCons (uCall [0, 1] [] [.io 0, .val (uC (.int 13))] [(0, 0)] uf__law_take_i0) (uNil)))] [(0, 0)] (uf__law_net_i02 fuel__law_net) (En2 p W none none) = .ok x (En2 p' W none none) := by
  obtain ⟨r, p1, r0, r1, P1, s1, e1⟩ := take_ok (n := 13) P (by decide) (by decide)
  obtain ⟨l, rfl⟩ : ∃ l : Nat, r = (l : Int) := ⟨r.toNat, by omega⟩
  obtain ⟨x, p2, c, l', y, rr, hc, hx, P2, e2⟩ := net_ok w0 w1 60 p1 l P1 (by omega) (by omega)
  refine ⟨x, p2, c, by omega, hx, P2, ?_⟩
  have h0 : uLst (uCons (uCall [0, 1] [] [.io 0, .val (uC (.int 13))] [(0, 0)] uf__law_take_i0) (uNil)) (En2 p W none none) = .ok (.lst [.int (l : Nat)]) (En2 p1 W none none) := lst_ok (Z.cons_ok (call_pot (e := En2 p W none none) (e1 := En2 p W none none) rfl rfl rfl e1) nil_ok2) (by simp)
  have pk : pick [0, 1, 2] ([p1, .int W, .lst [.int (l : Nat)]] ++ []) = [p1, .int W, .lst [.int (l : Nat)]] := rfl
  have a1 : uArgs [.io 0, .val (uV 1), .fresh (uLst (uCons (uCall [0, 1] [] [.io 0, .val (uC (.int 13))] [(0, 0)] uf__law_take_i0) (uNil)))] (En2 p W none none) = .ok [none, some (.int W), some (.lst [.int (l : Nat)])] (En2 p1 W none none) := by
    generalize uLst (uCons (uCall [0, 1] [] [.io 0, .val (uC (.int 13))] [(0, 0)] uf__law_take_i0) (uNil)) = Q at h0 ⊢
    have v1 : uV 1 (En2 p W none none) = .ok (.int W) (En2 p W none none) := rfl
    have j0 : ((En2 p W none none)[0]?).join = some p := rfl
    simp only [uArgs, j0, v1, UQ.bind, h0]
  generalize uLst (uCons (uCall [0, 1] [] [.io 0, .val (uC (.int 13))] [(0, 0)] uf__law_take_i0) (uNil)) = Q at a1 ⊢
  have a2 : Z.fill [.io 0, .val (uV 1), .fresh Q] [none, some (.int W), some (.lst [.int (l : Nat)])] (En2 p1 W none none) = some [p1, .int W, .lst [.int (l : Nat)]] := rfl
  have e3 : uf__law_net_i02 fuel__law_net [p1, .int W, .lst [.int (l : Nat)]] = _ := e2
  simp only [uCall, a1, UQ.bind, a2, pk, e3, wbk]
  rfl
theorem deep_draw {p : U} {W : Int} {l t : Option U} {m : Nat} {q : UE} (P : Urn p) (w0 : 0 < W) (w1 : W < 1000) (hm : m ≤ 100) (hq : q (En2 p W l t) = .ok (.int m) (En2 p W l t)) : ∃ x p', Ne W m x ∧ Urn p' ∧ uCall [0, 1, 2] [] [.io 0, .val (uV 1), .val q] [(0, 0)] uf__law_deep_i0 (En2 p W l t) = .ok x (En2 p' W l t) := by
  obtain ⟨x, p', h, P', r, e⟩ := deep_ok (m := m) P w0 w1 hm
  exact ⟨x, p', h, P', call_pot3 (e := En2 p W l t) (e1 := En2 p W l t) (e2 := En2 p W l t) (q := uV 1) rfl rfl hq rfl e⟩
noncomputable def deepQ : UE := uCall [0, 1, 2] [] [.io 0, .val (uV 1), .val (uBin uAdd (.now (uC (.int 3))) (.now (uBin uDiv (.now (uV 4)) (.now (uC (.int 3))))))] [(0, 0)] uf__law_deep_i0
theorem four_draw {p : U} {W : Int} {l : U} (P : Urn p) (w0 : 0 < W) (w1 : W < 1000) : ∃ x p', Ne W 14 x ∧ Urn p' ∧ uBin uAdd (.now (uTup (uCons (uC (.str "after")) (uNil)))) (.now (uUn uTuple (.now (uLc (uRng (uC (.int 4))) (.nm 4) [4] (uTrue) deepQ)))) (En2 p W (some l) none) = .ok x (En2 p' W (some l) none) := by
  have rg : uRng (uC (.int 4)) (En2 p W (some l) none) = .ok (rngU 0 4) (En2 p W (some l) none) := rng_ok rfl (by decide)
  have one : ∀ (p : U) (t : Int) (m : Nat), (3 : Int) + t.fdiv 3 = (m : Int) → m ≤ 100 → Urn p → ∃ x p', Ne W m x ∧ Urn p' ∧ deepQ (En2 p W (some l) (some (.int t))) = .ok x (En2 p' W (some l) (some (.int t))) := fun p t m ht hm P => by
    refine deep_draw (l := some l) (t := some (.int t)) P w0 w1 hm ?_
    refine bin_ok rfl (bin_ok rfl rfl (r := .int (t.fdiv 3)) ?_) ?_
    · have l3 : (3 : Nat).log2 < 9000 := by decide
      simp [uDiv, l3]
    · show some (U.int (3 + t.fdiv 3)) = _
      rw [ht]
  have hr : rngU 0 4 = [.int 0, .int 1, .int 2, .int 3] := rfl
  obtain ⟨x1, p1, h1, P1, e1⟩ := one p 0 3 (by decide) (by decide) P
  obtain ⟨x2, p2, h2, P2, e2⟩ := one p1 1 3 (by decide) (by decide) P1
  obtain ⟨x3, p3, h3, P3, e3⟩ := one p2 2 3 (by decide) (by decide) P2
  obtain ⟨x4, p4, h4, P4, e4⟩ := one p3 3 4 (by decide) (by decide) P3
  have lc : uLc (uRng (uC (.int 4))) (.nm 4) [4] (uTrue) deepQ (En2 p W (some l) none) = .ok (.lst [x1, x2, x3, x4]) (En2 p4 W (some l) none) := by
    rw [hr] at rg
    refine lc_ok2 (e2 := En2 p4 W (some l) none) rg ?_
    have w0 : wipeU (En2 p W (some l) none) [4] = En2 p W (some l) none := rfl
    have w1 : wipeU (En2 p1 W (some l) (some (.int 0))) [4] = En2 p1 W (some l) none := rfl
    have w2 : wipeU (En2 p2 W (some l) (some (.int 1))) [4] = En2 p2 W (some l) none := rfl
    have w3 : wipeU (En2 p3 W (some l) (some (.int 2))) [4] = En2 p3 W (some l) none := rfl
    have w4 : wipeU (En2 p4 W (some l) (some (.int 3))) [4] = En2 p4 W (some l) none := rfl
    have pu : ∀ (q u : U), (Pat.nm 4).putU u (En2 q W (some l) none) = some (En2 q W (some l) (some u)) := fun q u => rfl
    simp only [w0, lcU, pu, uTrue, e1, w1, e2, w2, e3, w3, e4, w4]
    rfl
  refine ⟨_, p4, ne_join (c := 13) jw_after (xs := [x1, x2, x3, x4]) (by simpa using nes_cons h1 (nes_cons h2 (nes_cons h3 (nes_cons h4 nes_nil)))) (by simp) (by simp), P4, ?_⟩
  exact bin_ok (tup_ok (Z.cons_ok rfl nil_ok2) (by simp)) (un_ok lc rfl) rfl
theorem net_call {p : U} {W : Int} {l : U} {x t b n : Option U} {v : U} {f : UE} {e : UV} (he : f e = .ok v e) (hg : uV 1 e = .ok (.int W) e) (h : wd v) : uCall [0, 1] [] [.val f, .val (uV 1)] [] uf_is_net e = .ok (.bl (net? W v)) e := by
  obtain ⟨r, k⟩ := is_net_ok (k := W) h
  exact call2v he hg k
theorem right_ok {p : U} (P : Urn p) : ∃ r, uf__law_right_i0 [p] = .ok (.bl true) r := by
  obtain ⟨w, p1, v0, v1, P1, s1, e1⟩ := take_ok (n := 6) P (by decide) (by decide)
  let W : Int := 1 + w
  have w0 : 0 < W := by show 0 < 1 + w; omega
  have w1 : W < 1000 := by show 1 + w < 1000; omega
  have wn : W.natAbs < 1000 := by omega
  have s_1 : uBin uAdd (.now (uC (.int 1))) (.now (uCall [0, 1] [] [.io 0, .val (uC (.int 6))] [(0, 0)] uf__law_take_i0)) [some p, none, none, none, none, none, none] = .ok (.int W) [some p1, none, none, none, none, none, none] := bin_ok rfl (call_pot (e := [some p, none, none, none, none, none, none]) (e1 := [some p, none, none, none, none, none, none]) rfl rfl rfl e1) rfl
  obtain ⟨x1, p2, c, hc, h1, P2, e2⟩ := net_draw P1 w0 w1
  obtain ⟨x2, p3, h2, P3, e3⟩ := deep_draw (l := some (.lst [x1])) (t := none) (m := 12) (q := uC (.int 12)) P2 w0 w1 (by decide) rfl
  obtain ⟨x3, p4, h3, P4, e4⟩ := deep_draw (l := some (.lst [x1])) (t := none) (m := 13) (q := uC (.int 13)) P3 w0 w1 (by decide) rfl
  obtain ⟨x4, p5, h4, P5, e5⟩ := four_draw (l := .lst [x1, x2, x3]) P4 w0 w1
  have s_2 : uLst (uCons (uCall [0, 1, 2] [] [.io 0, .val (uV 1), .fresh (uLst (uCons (uCall [0, 1] [] [.io 0, .val (uC (.int 13))] [(0, 0)] uf__law_take_i0) (uNil)))] [(0, 0)] (uf__law_net_i02 fuel__law_net)) (uNil)) (En2 p1 W none none) = .ok (.lst [x1]) (En2 p2 W none none) := lst_ok (Z.cons_ok e2 nil_ok2) (by simp)
  have s_3 : uEx (uExt 2 (uLst (uCons (uCall [0, 1, 2] [] [.io 0, .val (uV 1), .val (uC (.int 12))] [(0, 0)] uf__law_deep_i0) (uCons (uCall [0, 1, 2] [] [.io 0, .val (uV 1), .val (uC (.int 13))] [(0, 0)] uf__law_deep_i0) (uNil))))) (En2 p2 W (some (.lst [x1])) none) = .nx (En2 p4 W (some (.lst [x1, x2, x3])) none) := by
    have : uLst (uCons (uCall [0, 1, 2] [] [.io 0, .val (uV 1), .val (uC (.int 12))] [(0, 0)] uf__law_deep_i0) (uCons (uCall [0, 1, 2] [] [.io 0, .val (uV 1), .val (uC (.int 13))] [(0, 0)] uf__law_deep_i0) (uNil))) (En2 p2 W (some (.lst [x1])) none) = .ok (.lst [x2, x3]) (En2 p4 W (some (.lst [x1])) none) := lst_ok (Z.cons_ok e3 (Z.cons_ok e4 nil_ok2)) (by simp)
    generalize uLst (uCons (uCall [0, 1, 2] [] [.io 0, .val (uV 1), .val (uC (.int 12))] [(0, 0)] uf__law_deep_i0) (uCons (uCall [0, 1, 2] [] [.io 0, .val (uV 1), .val (uC (.int 13))] [(0, 0)] uf__law_deep_i0) (uNil))) = Q at this ⊢
    have j : ∀ p, ((En2 p W (some (.lst [x1])) none)[2]?).join = some (.lst [x1]) := fun p => rfl
    simp only [uEx, uExt, j, this, UQ.bind]
    rfl
  have s_4 : uEx (uApp 2 (uBin uAdd (.now (uTup (uCons (uC (.str "after")) (uNil)))) (.now (uUn uTuple (.now (uLc (uRng (uC (.int 4))) (.nm 4) [4] (uTrue) deepQ)))))) (En2 p4 W (some (.lst [x1, x2, x3])) none) = .nx (En2 p5 W (some (.lst [x1, x2, x3, x4])) none) := by
    generalize uBin uAdd (.now (uTup (uCons (uC (.str "after")) (uNil)))) (.now (uUn uTuple (.now (uLc (uRng (uC (.int 4))) (.nm 4) [4] (uTrue) deepQ)))) = Q at e5 ⊢
    have j : ∀ p, ((En2 p W (some (.lst [x1, x2, x3])) none)[2]?).join = some (.lst [x1, x2, x3]) := fun p => rfl
    simp only [uEx, uApp, j, e5, UQ.bind]
    rfl
  let l : List U := [x1, x2, x3, x4]
  let e6 : UV := Er p5 W l none none none none
  have n1 : net? W x1 = true := by simp only [net?, h1.j, decide_eq_true_eq]; exact hc
  have n2 : net? W x2 = true := by simp only [net?, h2.j]; rfl
  have n3 : net? W x3 = false := by simp only [net?, h3.j]; rfl
  have s_5 : uLc (uSq (uSl (.late 2) (uC .non) (uInt1 (uC (.int 3))))) (.nm 3) [3] (uTrue) (uCall [0, 1] [] [.val (uV 3), .val (uV 1)] [] uf_is_net) e6 = .ok (.lst [.bl true, .bl true, .bl false]) e6 := by
    have sq : uSq (uSl (.late 2) (uC .non) (uInt1 (uC (.int 3)))) e6 = .ok ([x1, x2, x3].map fun x => x) e6 := rfl
    have c := lc_map (i := 3) (el := uCall [0, 1] [] [.val (uV 3), .val (uV 1)] [] uf_is_net) (e := e6) (fun x => x) (fun x => .bl (net? W x)) rfl [x1, x2, x3] [] (by simp) fun x hx => net_call (p := p5) (l := .lst l) (x := none) (t := none) (b := none) (n := none) rfl rfl (by
      simp only [List.mem_cons, List.not_mem_nil, or_false] at hx
      rcases hx with z | z | z <;> subst z
      · exact h1.w
      · exact h2.w
      · exact h3.w)
    have c2 := lc_ok2 sq c
    simp only [List.nil_append, List.map_cons, List.map_nil, n1, n2, n3] at c2
    exact c2
  have c6 : uCmp uNe (.now (uLc (uSq (uSl (.late 2) (uC .non) (uInt1 (uC (.int 3))))) (.nm 3) [3] (uTrue) (uCall [0, 1] [] [.val (uV 3), .val (uV 1)] [] uf_is_net))) (.now (uLst (uCons (uC (.bl true)) (uCons (uC (.bl true)) (uCons (uC (.bl false)) (uNil)))))) e6 = .ok false e6 := cmp_ok s_5 (lst_ok (Z.cons_ok rfl (Z.cons_ok rfl (Z.cons_ok rfl nil_ok2))) (by simp)) rfl
  obtain ⟨p6, x', t', b', P6, e7⟩ := out_for (l := l) wn l p5 none none none (fun x hx => by
    simp only [l, List.mem_cons, List.not_mem_nil, or_false] at hx
    rcases hx with z | z | z | z <;> subst z
    · exact h1.gd (by omega)
    · exact h2.gd (by omega)
    · exact h3.gd (by omega)
    · exact h4.gd (by omega)) P5
  have f7 : uFor (uSq (uV 2)) (.nm 3) outbody e6 = .nx (Er p6 W l x' t' b' none) := e7
  -- odd things
  have r6 : uRng (uC (.int 6)) (Er p6 W l x' t' b' none) = .ok (rngU 0 6) (Er p6 W l x' t' b' none) := rng_ok rfl (by decide)
  obtain ⟨xs, p7, q1, P7, q2⟩ := lc_draw (R := fun _ x => x = .bl true) (V := Urn) (E := fun p => Er p W l x' none b' none) (i := 4) (el := uCall [0, 1] [] [.val (uCall [0, 1] [] [.io 0, .val (uV 1)] [(0, 0)] uf__law_odd_i0), .val (uV 1)] [] uf__law_asked_right) (fun _ => rfl) (rngU 0 6) [] p6 (by decide) P6 fun p k _ P => by
    obtain ⟨v, p', hv, P', r, e⟩ := odd_ok P wn
    refine ⟨.bl true, p', rfl, P', ?_⟩
    have c1 : uCall [0, 1] [] [.io 0, .val (uV 1)] [(0, 0)] uf__law_odd_i0 (Er p W l x' (some k) b' none) = .ok v (Er p' W l x' (some k) b' none) := call_pot (e := Er p W l x' (some k) b' none) (e1 := Er p W l x' (some k) b' none) (q := uV 1) rfl rfl rfl e
    obtain ⟨r2, e2⟩ := asked_ok (k := W) (x := v) ⟨hv.w, by have := hv.d; omega, by have := hv.c; omega⟩
    exact call2v (g := uV 1) c1 rfl e2
  have xt : xs = xs.map fun _ => U.bl true := f2_true q1
  have fin : uAnd (uBin uEq (.now (uC (.int 12))) (.now (uC (.int 12)))) (uUn uAll (.now (uLc (uRng (uC (.int 6))) (.nm 4) [4] (uTrue) (uCall [0, 1] [] [.val (uCall [0, 1] [] [.io 0, .val (uV 1)] [(0, 0)] uf__law_odd_i0), .val (uV 1)] [] uf__law_asked_right)))) (Er p6 W l x' t' b' none) = .ok (.bl true) (Er p7 W l x' t' b' none) := by
    have a1 : uBin uEq (.now (uC (.int 12))) (.now (uC (.int 12))) (Er p6 W l x' t' b' none) = .ok (.bl true) (Er p6 W l x' t' b' none) := rfl
    have lc := lc_ok2 (el := uCall [0, 1] [] [.val (uCall [0, 1] [] [.io 0, .val (uV 1)] [(0, 0)] uf__law_odd_i0), .val (uV 1)] [] uf__law_asked_right) (p := .nm 4) (ws := [4]) (t := uTrue) r6 (e2 := Er p7 W l x' none b' none) (vs := xs) q2
    have a2 : uUn uAll (.now (uLc (uRng (uC (.int 6))) (.nm 4) [4] (uTrue) (uCall [0, 1] [] [.val (uCall [0, 1] [] [.io 0, .val (uV 1)] [(0, 0)] uf__law_odd_i0), .val (uV 1)] [] uf__law_asked_right))) (Er p6 W l x' t' b' none) = .ok (.bl true) (Er p7 W l x' t' b' none) := un_ok lc (by rw [xt]; exact all_true xs)
    simp only [uAnd, a1, UQ.bind, uTru, uTruth, if_true]
    exact a2
  exact ⟨_, run_rt (e0 := [some p, none, none, none, none, none, none]) rfl (seq_nx (set_ok s_1) (seq_nx (set_ok s_2) (seq_nx s_3 (seq_nx s_4 (seq_nx (if_no c6 rfl) (seq_nx f7 (seq_rt (ret_ok fin))))))))⟩
end P
namespace P
open PySem PySem.Spec PyProof.Rows L2 Z
theorem run_rtF {b : UF} {L : Nat} {us : List U} {e0 e2 : UV} {v : U} (he : us.map some ++ List.replicate (L - us.length) none = e0) (h : b e0 = .ret v e2) : uRunF L b us = .ok v e2 := by
  simp only [uRunF, he, h]
theorem mod_ok {i j : Int} (h : 0 < j) : uMod (.int i) (.int j) = some (.int (i % j)) := if_pos h
theorem pow_ok {i : Int} {j : Int} (h : 0 ≤ j ∧ j ≤ 1000000 ∧ i.natAbs < 2 ^ 64) : uPow (.int i) (.int j) = some (.int (i ^ j.toNat)) := if_pos h
theorem big_text : PySem.intText? (("1" : Str) ++ strRep ("0" : Str) 300) = some (10 ^ 300) := by decide +kernel
theorem big_len : (("1" : Str) ++ strRep ("0" : Str) 300).length ≤ 640 := by decide +kernel
theorem mul_str {x : Str} {k : Int} (h : 0 ≤ k ∧ k ≤ 1000 ∧ x.length ≤ 1000) : uMul (.str x) (.int k) = some (.str (strRep x k)) := if_pos h
theorem add_str {x y : Str} (h : x.length + y.length ≤ sizeLine) : uAdd (.str x) (.str y) = some (.str (x ++ y)) := if_pos h
theorem big_rep : uMul (.str "0") (.int 300) = some (.str (strRep ("0" : Str) 300)) := mul_str (by decide +kernel)
theorem big_add : uAdd (.str "1") (.str (strRep ("0" : Str) 300)) = some (.str (("1" : Str) ++ strRep ("0" : Str) 300)) := add_str (by decide +kernel)
theorem toInt_str {a : Str} {n : Int} (h : PySem.intText? a = some n) (hl : a.length ≤ 640) : uToInt (.str a) = some (.int n) := by
  simp only [uToInt, h, if_pos hl]
theorem big_bt : Bt 1000 ((10 : Int) ^ 300) := by unfold Bt; decide +kernel
theorem big_pos : (0 : Int) < 10 ^ 300 := by decide +kernel
theorem big_e {e : UV} : uUn uToInt (.now (uBin uAdd (.now (uC (.str "1"))) (.now (uBin uMul (.now (uC (.str "0"))) (.now (uC (.int 300))))))) e = .ok (.int (10 ^ 300)) e := by
  have h1 := big_rep
  have h2 := big_add
  have h3 := toInt_str big_text big_len
  generalize strRep ("0" : Str) 300 = z at h1 h2 h3
  generalize (("1" : Str) ++ z) = y at h2 h3
  exact un_ok (bin_ok rfl (bin_ok rfl rfl h1) h2) h3
theorem pot_ok {ns : List Int} {k : Nat} (hk : k < 64) (hl : ns.length ≤ 63) : ∃ p r, Urn p ∧ uf__law_pot_F [.fl (ns.map .int), .int k] = .ok p r := by
  let e0 : UV := [some (.fl (ns.map .int)), some (.int k), none, none]
  have ln : uLen (.fl (ns.map .int)) = some (.int ns.length) := by
    show some (U.int ((ns.map U.int).length : Nat)) = _
    rw [List.length_map]
  have m0 : uMul (.int 5) (.int k) = some (.int (5 * (k : Int))) := uMul_bt (k := 30) (l := 30) (Bt.le (by decide) (by decide)) (Bt.le (by omega) (by omega)) (by decide)
  have s1 : uBin uAdd (.now (uBin uMul (.now (uC (.int 5))) (.now (uV 1)))) (.now (uUn uLen (.now (uV 0)))) e0 = .ok (.int (5 * (k : Int) + ns.length)) e0 := bin_ok (bin_ok rfl rfl m0) (un_ok rfl ln) rfl
  let e1 : UV := [some (.fl (ns.map .int)), some (.int k), some (.int (5 * (k : Int) + ns.length)), none]
  have c1 : uCmp uLt (.now (uV 1)) (.now (uUn uLen (.now (uV 0)))) e1 = .ok (decide ((k : Int) < (ns.length : Int))) e1 := cmp_ok rfl (un_ok rfl ln) rfl
  have cell : ∃ x : Int, uIfS (uCmp uLt (.now (uV 1)) (.now (uUn uLen (.now (uV 0))))) (uSeq (uSet 2 (uBin uIx (.now (uV 0)) (.now (uV 1)))) (uNop)) (uNop) e1 = .nx [some (.fl (ns.map .int)), some (.int k), some (.int x), none] := by
    by_cases h : k < ns.length
    · rw [decide_eq_true (by omega)] at c1
      have ix : uIx (.fl (ns.map .int)) (.int k) = some (.int ns[k]) := by
        have h2 : (k : Int) < (ns.length : Int) := by omega
        simp [uIx, uItems, L2.atI, L2.ixN, h, h2]
      exact ⟨ns[k], if_yes c1 (seq_nx (set_ok (bin_ok rfl rfl ix)) rfl)⟩
    · rw [decide_eq_false (by omega)] at c1
      exact ⟨5 * (k : Int) + ns.length, if_no c1 rfl⟩
  obtain ⟨x, ex⟩ := cell
  let e2 : UV := [some (.fl (ns.map .int)), some (.int k), some (.int x), none]
  generalize hab : (if x < 0 then -x else x) = ab
  have ab1 : uUn uAbs (.now (uV 2)) e2 = .ok (.int ab) e2 := un_ok (a := .int x) rfl (by rw [← hab]; rfl)
  have p18 : uPow (.int 10) (.int 18) = some (.int ((10 : Int) ^ (18 : Int).toNat)) := pow_ok (by decide +kernel)
  generalize hw : decide ((10 : Int) ^ (18 : Int).toNat ≤ ab) = w
  have ge : uBin uGe (.now (uUn uAbs (.now (uV 2)))) (.now (uBin uPow (.now (uC (.int 10))) (.now (uC (.int 18))))) e2 = .ok (.bl w) e2 := bin_ok ab1 (bin_ok rfl rfl p18) (by rw [← hw]; rfl)
  have tw : uToInt (.bl w) = some (.int (if w then 1 else 0)) := rfl
  have great : ∃ g : Int, 0 ≤ g ∧ uBin uMul (.now (uBin uMod (.now (uUn uAbs (.now (uV 2)))) (.now (uUn uToInt (.now (uBin uAdd (.now (uC (.str "1"))) (.now (uBin uMul (.now (uC (.str "0"))) (.now (uC (.int 300))))))))))) (.now (uUn uToInt (.now (uBin uGe (.now (uUn uAbs (.now (uV 2)))) (.now (uBin uPow (.now (uC (.int 10))) (.now (uC (.int 18))))))))) e2 = .ok (.int g) e2 := by
    have b := big_e (e := e2)
    have bp := big_pos
    have bb := big_bt
    generalize (10 : Int) ^ 300 = T at b bp bb
    have h1 := Int.emod_nonneg ab (show T ≠ 0 by omega)
    have h2 := Int.emod_lt_of_pos ab bp
    have bm : Bt 1000 (ab % T) := by unfold Bt at *; omega
    have mw : uMul (.int (ab % T)) (.int (if w then 1 else 0)) = some (.int (ab % T * (if w then 1 else 0))) := uMul_bt (l := 10) bm (by cases w <;> exact Bt.le (by decide) (by decide)) (by decide)
    refine ⟨ab % T * (if w then 1 else 0), ?_, bin_ok (bin_ok ab1 b (mod_ok bp)) (un_ok ge tw) mw⟩
    cases w
    · simp
    · simpa using h1
  obtain ⟨g, g0, eg⟩ := great
  let e3 : UV := [some (.fl (ns.map .int)), some (.int k), some (.int x), some (.int g)]
  have m1 : uMul (.int 6959) (.int k) = some (.int (6959 * (k : Int))) := uMul_bt (k := 30) (l := 30) (Bt.le (by decide) (by decide)) (Bt.le (by omega) (by omega)) (by decide)
  have m2 : uMul (.int (6959 * (k : Int))) (.int k) = some (.int (6959 * (k : Int) * (k : Int))) := uMul_bt (k := 60) (l := 30) (Bt.le (by omega) (by omega)) (Bt.le (by omega) (by omega)) (by decide)
  have b1 : Bt 62 (x % 2305843009213693951) := Bt.le (by have := Int.emod_nonneg x (show (2305843009213693951 : Int) ≠ 0 by decide); omega) (by have := Int.emod_lt_of_pos x (show (0 : Int) < 2305843009213693951 by decide); omega)
  have b2 : Bt 62 (6959 * (k : Int) * (k : Int)) := ((Bt.le (k := 30) (by omega) (by omega) : Bt 30 (6959 * (k : Int))).mul (Bt.le (k := 30) (by omega) (by omega) : Bt 30 (k : Int))).mono (by decide)
  have b3 : Bt 64 (x % 2305843009213693951 + 6959 * (k : Int) * (k : Int) + 13) := (b1.add b2).add (Bt.le (by decide) (by decide))
  have m3 : uMul (.int (x % 2305843009213693951 + 6959 * (k : Int) * (k : Int) + 13)) (.int 48271) = some (.int ((x % 2305843009213693951 + 6959 * (k : Int) * (k : Int) + 13) * 48271)) := uMul_bt (k := 64) (l := 30) b3 (Bt.le (by decide) (by decide)) (by decide)
  generalize hy : (x % 2305843009213693951 + 6959 * (k : Int) * (k : Int) + 13) * 48271 = y at m3
  have mixed : uBin uMod (.now (uBin uMul (.now (uBin uAdd (.now (uBin uAdd (.now (uBin uMod (.now (uV 2)) (.now (uC (.int 2305843009213693951))))) (.now (uBin uMul (.now (uBin uMul (.now (uC (.int 6959))) (.now (uV 1)))) (.now (uV 1)))))) (.now (uC (.int 13))))) (.now (uC (.int 48271))))) (.now (uC (.int 2305843009213693951))) e3 = .ok (.int (y % 2305843009213693951)) e3 :=
    bin_ok (bin_ok (bin_ok (bin_ok (bin_ok rfl rfl (mod_ok (by decide))) (bin_ok (bin_ok rfl rfl m1) rfl m2) rfl) rfl rfl) rfl m3) rfl (mod_ok (by decide))
  refine ⟨pt g (y % 2305843009213693951), _, ⟨g, y % 2305843009213693951, rfl, g0, Int.emod_nonneg y (by decide), Int.emod_lt_of_pos y (by decide)⟩, run_rtF (e0 := e0) rfl (seq_nx (set_ok s1) (seq_nx ex (seq_nx (set_ok eg) (seq_rt (ret_ok (lst_ok (Z.cons_ok rfl (Z.cons_ok mixed nil_ok2)) (by simp)))))))⟩
theorem callF {f g : UE} {G F : List U → UQ U} {e e1 e2 r r2 : UV} {a b p u : U} (h : f e = .ok a e1) (h2 : g e1 = .ok b e2) (hF : F [a, b] = .ok p r) (hG : G [p] = .ok u r2) : uCall [0] [] [.fresh (uCall [0, 1] [] [.val f, .val g] [] F)] [] G e = .ok u e2 := by
  have c := call2v (dfl := []) h h2 hF
  have pk : pick [0] ([p] ++ []) = [p] := rfl
  generalize uCall [0, 1] [] [.val f, .val g] [] F = K at c ⊢
  simp only [uCall, uArgs, c, UQ.bind, Z.fill, Arg.get, pk, hG, wbk]
theorem law_u (ns : List Int) (hl : ns.length ≤ 63) : ∃ r, uf_law [.fl (ns.map .int)] = .ok (.bl true) r := by
  let n : Nat := max 1 (min 4 ns.length)
  have n6 : n ≤ 4 := by omega
  let e0 : UV := [some (.fl (ns.map .int)), none]
  have ln : uLen (.fl (ns.map .int)) = some (.int ns.length) := by
    show some (U.int ((ns.map U.int).length : Nat)) = _
    rw [List.length_map]
  have q : uBin uMax2 (.now (uC (.int 1))) (.now (uBin uMin2 (.now (uC (.int 4))) (.now (uUn uLen (.now (uV 0)))))) e0 = .ok (.int n) e0 := by
    refine bin_ok rfl (bin_ok rfl (un_ok rfl ln) rfl) ?_
    show some (U.int _) = some (U.int _)
    congr 2
    simp only [n]
    split <;> split <;> omega
  have rg : uRng (uBin uMax2 (.now (uC (.int 1))) (.now (uBin uMin2 (.now (uC (.int 4))) (.now (uUn uLen (.now (uV 0))))))) e0 = .ok ((List.range n).map fun (i : Nat) => U.int (i : Int)) e0 := by
    rw [← rngU_map]
    exact rng_ok q (Nat.lt_of_le_of_lt n6 (by decide))
  have c := lc_map (i := 1) (el := uCall [0] [] [.fresh (uCall [0, 1] [] [.val (uV 0), .val (uV 1)] [] uf__law_pot_F)] [] uf__law_right_i0) (e := e0) (fun i : Nat => U.int (i : Int)) (fun _ => .bl true) rfl (List.range n) [] (by simp only [List.length_nil, List.length_range]; omega) fun k hk => by
    have hk6 : k < 4 := Nat.lt_of_lt_of_le (List.mem_range.mp hk) n6
    obtain ⟨p, r, P, e⟩ := pot_ok (ns := ns) (k := k) (by omega) hl
    obtain ⟨r2, e2⟩ := right_ok P
    exact callF rfl rfl e e2
  exact ⟨_, run_ret1 rfl (un_ok (lc_ok2 rg c) (all_true _))⟩
theorem math (ns : List Int) (hl : ns.length ≤ 63) : ∃ S, fn_law [.fl (ns.map .int)] [] = .ok (.bl true) S := by
  obtain ⟨r, e⟩ := law_u ns hl
  have rp : ∀ l : List Int, Rps (fun _ => False) [] (l.map D.int) (l.map U.int) := fun l => by
    induction l with
    | nil => exact .nil
    | cons x l ih => exact .cons (.int x) ih
  have rel : Rel [] (fun _ => False) [] ([.fl (ns.map .int)].map some) ([.fl (ns.map .int)].map some) := by
    refine ⟨fun n h => h.elim, rfl, fun i u h _ => ?_, fun i u _ h => (by cases h), fun n ⟨i, h, _⟩ => (by cases h), fun i j n h => (by cases h)⟩
    match i, h with
    | 0, h =>
      simp at h
      subst h
      exact ⟨_, rfl, .fl (rp ns)⟩
  have k := su_law (fun _ => False) [] [.fl (ns.map .int)] [.fl (ns.map .int)] rel
  rw [e] at k
  obtain ⟨d, S, h1, h2, _⟩ := k
  cases h2
  exact ⟨S, h1⟩
end P
open PySem PySem.W PySem.Calls PyProof.Rows
theorem PySem.Challenge.cw_lateshares_k05_nets_of_anything_holds : PySem.Challenge.rw_lateshares_k05_nets_of_anything.Holds := by
  w_on; o_law
  refine HandSHeadRun.head_any (r := P.Rw) (q := P.vw) (H := P.hk) (ob := P.ob) (M := 6000) (loose := P.loose) (d := HandSHeadRun.topDef P.Rw.prog 23) (kwd := []) P.ob_eq
    (by kernel_rfl) (fun s => by kernel_rfl) P.run (by kernel_rfl) (by kernel_rfl) (by kernel_rfl) (by rfl) (by first | assumption | decide +kernel) (by decide +kernel) ⟨rfl, rfl, rfl, rfl, rfl, by decide +kernel⟩ ?hw ?hc
  case hw => w_witness2
  case hc =>
    refine Z.walk_ofG (l := PySem.Challenge.rw_lateshares_k05_nets_of_anything) (n := 63) (k := 65) (x := "_law_script") (fn := P.fn_law) rfl (by decide) (by kernel_rfl) ⟨rfl, by decide, by decide⟩ ?F P.math
    intro w mg fa h Y G hmg0
    obtain ⟨K, KX, c⟩ := Y
    have hmg : mg ("law" : PySem.Str) = some (.ref fa) := by
      have e : (HandSHeadRun.topDef P.Rw.prog 23).name = ("law" : PySem.Str) := by kernel_rfl
      rw [← e]
      exact hmg0
    obtain ⟨fd, hb, hF⟩ := P.law_facts (P := (PySem.Challenge.rw_lateshares_k05_nets_of_anything).prog) (w := w) KX G hmg c
    exact ⟨K, fd, KX, hb, fun base _ _ => hF base⟩
