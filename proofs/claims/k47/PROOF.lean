import PyProof.Rows.All
import Wide.All
import OpenK.AllK
import Wide.FinOn
import HandS.ForMost
import HandS.Exc
import HandS.TryOnly
import HandS.ExcOwn
import HandS.WordsExc
import HandS.Conv
import HandS.Flow
import HandS.IsInst
import HandS.Style
import HandS.TupAny
import HandS.TupMul
import HandS.Wide
import HandS.Defaults
import HandS.RaiseMore
import HandS.Deep
import HandS.Set
import HandS.SetKeys
import HandS.StrMore
import HandS.StrSplit
import HandS.CallLocal
import PyProof.NeKinds
import HandS.Replace
import HandS.ReplaceLit
import KE.KRevSl
import PyProof.StrOps2
import HandS.Zip
import HandS.More
import HandS.SetFor
import HandS.Steps
import HandS.WrittenGet
import HandS.Words
import HandS.HeadHook2
import HandS.Head2
import HandS.HeadEnd
import HandS.HeadHook3
import HandS.Codes
import PySem.Challenge.RW_allshelves_k47_any_values_as_rows_and_de
set_option Elab.async false
set_option linter.all false
set_option maxRecDepth 100000
/-! Values as data, own trees, and what a list of values says of the heap. -/
namespace Fi
open PySem PySem.Spec PyProof.Rows L2
abbrev Ban := Addr → Prop
def keyD : Key → PyData
  | .inl i => .int i
  | .inr x => .str x
def ktD (ks : List Key) : PyData := .tuple (ks.map keyD)
section
variable (K : PySem.W.Frag) (D : Ban) (H : Hp)
mutual
def Dq : PyData → V → Prop
  | .none, v => v = .non
  | .bool b, v => v = .bl b
  | .int i, v => v = .int i
  | .str x, v => v = .str x
  | .list ds, v => ∃ a xs, v = .ref a ∧ ¬ D a ∧ H a = some (.lst xs) ∧ DqL ds xs
  | .tuple ds, v => ∃ a xs, v = .ref a ∧ SqT K H a xs ∧ DqL ds xs
  | .dict kvs, v => ∃ a, v = .ref a ∧ ¬ D a ∧ ((∃ ys, H a = some (.dK ys) ∧ DqK kvs ys) ∨ ∃ ys, ys ≠ [] ∧ H a = some (.dT ys) ∧ DqT kvs ys)
def DqL : List PyData → List V → Prop
  | [], xs => xs = []
  | d :: ds, xs => ∃ x r, xs = x :: r ∧ Dq d x ∧ DqL ds r
def DqK : List (PyData × PyData) → List (Key × V) → Prop
  | [], ys => ys = []
  | (k, d) :: kvs, ys => ∃ j x r, ys = (j, x) :: r ∧ k = keyD j ∧ Dq d x ∧ DqK kvs r
def DqT : List (PyData × PyData) → List (List Key × V) → Prop
  | [], ys => ys = []
  | (k, d) :: kvs, ys => ∃ j x r, ys = (j, x) :: r ∧ k = ktD j ∧ Dq d x ∧ DqT kvs r
end
end
theorem sqT_same {K : PySem.W.Frag} {H H' : Hp} {a : Addr} {xs : List V} (g : Same H H') (h : SqT K H a xs) : SqT K H' a xs := by
  rcases h with h | h
  · rcases h with h | ⟨o, h⟩
    · exact .inl (.inl (g _ _ h))
    · exact .inl (.inr ⟨o, g _ _ h⟩)
  · exact .inr h
theorem sqT_put {K : PySem.W.Frag} {H : Hp} {a p : Addr} {o : HO} {xs : List V} (mu : Mut (H p)) (h : SqT K H a xs) : SqT K (upd H p o) a xs := by
  rcases h with h | h
  · rcases h with h | ⟨q, h⟩
    · have : a ≠ p := fun e => by rw [← e, h] at mu; exact mu
      exact .inl (.inl (by rw [upd_ne this]; exact h))
    · have : a ≠ p := fun e => by rw [← e, h] at mu; exact mu
      exact .inl (.inr ⟨q, by rw [upd_ne this]; exact h⟩)
  · exact .inr h
/-- a list that stays as it is -/
def SqF (K : PySem.W.Frag) (H : Hp) (a : Addr) (xs : List V) : Prop := (∃ o, H a = some (.frz o (.lst xs))) ∨ ∃ (o : Obj) (its : Array Value) (n : Nat), K.lookup a = some o ∧ o.cls = .type "list" ∧ o.dict = none ∧ o.data = .seq its n ∧ its.size ≤ sizeLine ∧ Vals xs its.toList
theorem SqF.sq {K : PySem.W.Frag} {H : Hp} {a : Addr} {xs : List V} (h : SqF K H a xs) : SqL K H a xs := by
  rcases h with ⟨o, h⟩ | h
  · exact .inl (.inr ⟨o, h⟩)
  · exact .inr h
theorem sqF_same {K : PySem.W.Frag} {H H' : Hp} {a : Addr} {xs : List V} (g : Same H H') (h : SqF K H a xs) : SqF K H' a xs := by
  rcases h with ⟨o, h⟩ | h
  · exact .inl ⟨o, g _ _ h⟩
  · exact .inr h
theorem sqF_put {K : PySem.W.Frag} {H : Hp} {a p : Addr} {o : HO} {xs : List V} (mu : Mut (H p)) (h : SqF K H a xs) : SqF K (upd H p o) a xs := by
  rcases h with ⟨q, h⟩ | h
  · have : a ≠ p := fun e => by rw [← e, h] at mu; exact mu
    exact .inl ⟨q, by rw [upd_ne this]; exact h⟩
  · exact .inr h
/-- what a reading of data leans on -/
structure Go (K : PySem.W.Frag) (D D' : Ban) (H H' : Hp) : Prop where
  o : ∀ a x, ¬ D a → H a = some x → H' a = some x ∧ ¬ D' a
  t : ∀ a xs, SqT K H a xs → SqT K H' a xs
  s : ∀ a xs, SqF K H a xs → SqF K H' a xs
section
variable {K : PySem.W.Frag} {D D' : Ban} {H H' : Hp}
mutual
theorem Dq.go (g : Go K D D' H H') : ∀ (d : PyData) (v : V), Dq K D H d v → Dq K D' H' d v
  | .none, _, h => h
  | .bool _, _, h => h
  | .int _, _, h => h
  | .str _, _, h => h
  | .list ds, _, h => by
    unfold Dq at h ⊢
    obtain ⟨a, xs, e, n, ha, hl⟩ := h
    exact ⟨a, xs, e, (g.o a _ n ha).2, (g.o a _ n ha).1, DqL.go g ds xs hl⟩
  | .tuple ds, _, h => by
    unfold Dq at h ⊢
    obtain ⟨a, xs, e, ha, hl⟩ := h
    exact ⟨a, xs, e, g.t _ _ ha, DqL.go g ds xs hl⟩
  | .dict kvs, _, h => by
    unfold Dq at h ⊢
    obtain ⟨a, e, n, h⟩ := h
    rcases h with ⟨ys, ha, hl⟩ | ⟨ys, ne, ha, hl⟩
    · exact ⟨a, e, (g.o a _ n ha).2, .inl ⟨ys, (g.o a _ n ha).1, DqK.go g kvs ys hl⟩⟩
    · exact ⟨a, e, (g.o a _ n ha).2, .inr ⟨ys, ne, (g.o a _ n ha).1, DqT.go g kvs ys hl⟩⟩
theorem DqL.go (g : Go K D D' H H') : ∀ (ds : List PyData) (xs : List V), DqL K D H ds xs → DqL K D' H' ds xs
  | [], _, h => h
  | d :: ds, _, h => by
    unfold DqL at h ⊢
    obtain ⟨x, r, e, h1, h2⟩ := h
    exact ⟨x, r, e, Dq.go g d x h1, DqL.go g ds r h2⟩
theorem DqK.go (g : Go K D D' H H') : ∀ (ds : List (PyData × PyData)) (xs : List (Key × V)), DqK K D H ds xs → DqK K D' H' ds xs
  | [], _, h => h
  | (k, d) :: ds, _, h => by
    unfold DqK at h ⊢
    obtain ⟨j, x, r, e, ek, h1, h2⟩ := h
    exact ⟨j, x, r, e, ek, Dq.go g d x h1, DqK.go g ds r h2⟩
theorem DqT.go (g : Go K D D' H H') : ∀ (ds : List (PyData × PyData)) (xs : List (List Key × V)), DqT K D H ds xs → DqT K D' H' ds xs
  | [], _, h => h
  | (k, d) :: ds, _, h => by
    unfold DqT at h ⊢
    obtain ⟨j, x, r, e, ek, h1, h2⟩ := h
    exact ⟨j, x, r, e, ek, Dq.go g d x h1, DqT.go g ds r h2⟩
end
theorem Go.same (g : Same H H') : Go K D D H H' := ⟨fun a x n h => ⟨g a x h, n⟩, fun _ _ h => sqT_same g h, fun _ _ h => sqF_same g h⟩
theorem Go.ban (h : ∀ a, H a ≠ none → D' a → D a) : Go K D D' H H := ⟨fun a x n e => ⟨e, fun z => n (h a (by rw [e]; simp) z)⟩, fun _ _ h => h, fun _ _ h => h⟩
theorem Go.put {p : Addr} {o : HO} (mu : Mut (H p)) (hp : D p) : Go K D D H (upd H p o) := ⟨fun a x n h => ⟨by rw [upd_ne (fun e => n (by rw [e]; exact hp))]; exact h, n⟩, fun _ _ h => sqT_put mu h, fun _ _ h => sqF_put mu h⟩
theorem Go.trans {D'' : Ban} {H'' : Hp} (a : Go K D D' H H') (b : Go K D' D'' H' H'') : Go K D D'' H H'' := ⟨fun p x n h => b.o p x (a.o p x n h).2 (a.o p x n h).1, fun p xs h => b.t p xs (a.t p xs h), fun p xs h => b.s p xs (a.s p xs h)⟩
theorem same_new {p : Addr} (h : H p = none) (o : HO) : Same H (upd H p o) := fun b u q => by rw [upd_ne (ne_of_none q h)]; exact q
end
/-! ### own trees, values -/
inductive O where
  | leaf (x : PyData)
  | lst (xs : List O)
  | dic (kvs : List (Key × O))
  | dit (kvs : List (List Key × O))
mutual
def frz : O → PyData
  | .leaf x => x
  | .lst xs => .list (frzL xs)
  | .dic kvs => .dict (frzK kvs)
  | .dit kvs => .dict (frzT kvs)
def frzL : List O → List PyData
  | [] => []
  | x :: xs => frz x :: frzL xs
def frzK : List (Key × O) → List (PyData × PyData)
  | [] => []
  | (k, x) :: xs => (keyD k, frz x) :: frzK xs
def frzT : List (List Key × O) → List (PyData × PyData)
  | [] => []
  | (k, x) :: xs => (ktD k, frz x) :: frzT xs
end
/-- what a value, a slot is -/
inductive U where
  | d (x : PyData)
  /-- a tree of lists and dicts that nothing else holds -/
  | o (x : O)
  /-- what the slot i holds -/
  | b (i : Nat)
  /-- the k-th def -/
  | f (k : Nat)
  /-- an own object alone, with what stands in it -/
  | r (o : HO)
  /-- a list of ints that stays as it is -/
  | s (xs : List Int)
  /-- nothing is known -/
  | gone
abbrev Env := List (Option U)
section
variable (K : PySem.W.Frag) (fa : Nat → Addr) (D : Ban) (H : Hp)
mutual
def Ow : O → V → List Addr → Prop
  | .leaf x, v, A => A = [] ∧ Dq K D H x v
  | .lst xs, v, A => ∃ a vs As, v = .ref a ∧ A = a :: As ∧ H a = some (.lst vs) ∧ OwL xs vs As
  | .dic kvs, v, A => ∃ a ys As, v = .ref a ∧ A = a :: As ∧ (kvs.map (·.1)).Nodup ∧ H a = some (.dK ys) ∧ OwK kvs ys As
  | .dit kvs, v, A => ∃ a ys As, v = .ref a ∧ A = a :: As ∧ ys ≠ [] ∧ H a = some (.dT ys) ∧ OwT kvs ys As
def OwL : List O → List V → List Addr → Prop
  | [], vs, A => vs = [] ∧ A = []
  | o :: os, vs, A => ∃ v r A1 A2, vs = v :: r ∧ A = A1 ++ A2 ∧ Ow o v A1 ∧ OwL os r A2
def OwK : List (Key × O) → List (Key × V) → List Addr → Prop
  | [], vs, A => vs = [] ∧ A = []
  | (k, o) :: os, vs, A => ∃ v r A1 A2, vs = (k, v) :: r ∧ A = A1 ++ A2 ∧ Ow o v A1 ∧ OwK os r A2
def OwT : List (List Key × O) → List (List Key × V) → List Addr → Prop
  | [], vs, A => vs = [] ∧ A = []
  | (k, o) :: os, vs, A => ∃ v r A1 A2, vs = (k, v) :: r ∧ A = A1 ++ A2 ∧ Ow o v A1 ∧ OwT os r A2
end
def UR : U → V → List Addr → Prop
  | .d x, v, A => A = [] ∧ Dq K D H x v
  | .o x, v, A => Ow K D H x v A
  | .b _, _, A => A = []
  | .f k, v, A => A = [] ∧ v = .ref (fa k)
  | .r o, v, A => ∃ a, v = .ref a ∧ A = [a] ∧ H a = some o ∧ Mut (some o)
  | .s xs, v, A => A = [] ∧ ∃ a, v = .ref a ∧ SqF K H a (xs.map .int)
  | .gone, _, A => A = []
def RL : List (U × V) → List Addr → Prop
  | [], A => A = []
  | (u, v) :: L, A => ∃ A1 A2, A = A1 ++ A2 ∧ UR K fa D H u v A1 ∧ RL L A2
def Rel (L : List (U × V)) : Prop := ∃ A : List Addr, A.Nodup ∧ RL K fa (· ∈ A) H L A
end
section
variable {K : PySem.W.Frag} {fa : Nat → Addr} {D D' : Ban} {H H' : Hp}
/-- the own objects stay -/
def Ke (H H' : Hp) (A : List Addr) : Prop := ∀ a ∈ A, ∀ o, H a = some o → H' a = some o
theorem Ke.app {A B : List Addr} (k : Ke H H' (A ++ B)) : Ke H H' A ∧ Ke H H' B := ⟨fun a h => k a (List.mem_append_left _ h), fun a h => k a (List.mem_append_right _ h)⟩
theorem Ke.cons {a : Addr} {B : List Addr} (k : Ke H H' (a :: B)) : Ke H H' B := fun b h => k b (List.mem_cons_of_mem _ h)
mutual
theorem Ow.go (g : Go K D D' H H') : ∀ (o : O) (v : V) (A : List Addr), Ke H H' A → Ow K D H o v A → Ow K D' H' o v A
  | .leaf x, v, A, k, h => by
    unfold Ow at h ⊢
    exact ⟨h.1, Dq.go g x v h.2⟩
  | .lst xs, v, A, k, h => by
    unfold Ow at h ⊢
    obtain ⟨a, vs, As, e, eA, ha, hl⟩ := h
    subst eA
    exact ⟨a, vs, As, e, rfl, k a List.mem_cons_self _ ha, OwL.go g xs vs As k.cons hl⟩
  | .dic xs, v, A, k, h => by
    unfold Ow at h ⊢
    obtain ⟨a, vs, As, e, eA, nd, ha, hl⟩ := h
    subst eA
    exact ⟨a, vs, As, e, rfl, nd, k a List.mem_cons_self _ ha, OwK.go g xs vs As k.cons hl⟩
  | .dit xs, v, A, k, h => by
    unfold Ow at h ⊢
    obtain ⟨a, vs, As, e, eA, ne, ha, hl⟩ := h
    subst eA
    exact ⟨a, vs, As, e, rfl, ne, k a List.mem_cons_self _ ha, OwT.go g xs vs As k.cons hl⟩
theorem OwL.go (g : Go K D D' H H') : ∀ (o : List O) (v : List V) (A : List Addr), Ke H H' A → OwL K D H o v A → OwL K D' H' o v A
  | [], _, _, _, h => by unfold OwL at h ⊢; exact h
  | o :: os, v, A, k, h => by
    unfold OwL at h ⊢
    obtain ⟨v, r, A1, A2, e, eA, h1, h2⟩ := h
    subst eA
    exact ⟨v, r, A1, A2, e, rfl, Ow.go g o v A1 k.app.1 h1, OwL.go g os r A2 k.app.2 h2⟩
theorem OwK.go (g : Go K D D' H H') : ∀ (o : List (Key × O)) (v : List (Key × V)) (A : List Addr), Ke H H' A → OwK K D H o v A → OwK K D' H' o v A
  | [], _, _, _, h => by unfold OwK at h ⊢; exact h
  | (k0, o) :: os, v, A, k, h => by
    unfold OwK at h ⊢
    obtain ⟨v, r, A1, A2, e, eA, h1, h2⟩ := h
    subst eA
    exact ⟨v, r, A1, A2, e, rfl, Ow.go g o v A1 k.app.1 h1, OwK.go g os r A2 k.app.2 h2⟩
theorem OwT.go (g : Go K D D' H H') : ∀ (o : List (List Key × O)) (v : List (List Key × V)) (A : List Addr), Ke H H' A → OwT K D H o v A → OwT K D' H' o v A
  | [], _, _, _, h => by unfold OwT at h ⊢; exact h
  | (k0, o) :: os, v, A, k, h => by
    unfold OwT at h ⊢
    obtain ⟨v, r, A1, A2, e, eA, h1, h2⟩ := h
    subst eA
    exact ⟨v, r, A1, A2, e, rfl, Ow.go g o v A1 k.app.1 h1, OwT.go g os r A2 k.app.2 h2⟩
end
theorem UR.go (g : Go K D D' H H') {u : U} {v : V} {A : List Addr} (k : Ke H H' A) (h : UR K fa D H u v A) : UR K fa D' H' u v A := by
  cases u with
  | d x => exact ⟨h.1, Dq.go g x v h.2⟩
  | o x => exact Ow.go g x v A k h
  | r o => obtain ⟨a, e, rfl, h1, h2⟩ := h; exact ⟨a, e, rfl, k a List.mem_cons_self _ h1, h2⟩
  | s xs => obtain ⟨e, a, e2, h1⟩ := h; exact ⟨e, a, e2, g.s _ _ h1⟩
  | _ => exact h
theorem RL.go (g : Go K D D' H H') : ∀ {L : List (U × V)} {A : List Addr}, Ke H H' A → RL K fa D H L A → RL K fa D' H' L A
  | [], _, _, h => h
  | (u, v) :: L, A, k, h => by
    obtain ⟨A1, A2, rfl, h1, h2⟩ := h
    exact ⟨A1, A2, rfl, UR.go g k.app.1 h1, RL.go g k.app.2 h2⟩
theorem RL.ban {L : List (U × V)} {A : List Addr} (h : ∀ a, H a ≠ none → D' a → D a) (r : RL K fa D H L A) : RL K fa D' H L A := RL.go (Go.ban h) (fun _ _ _ e => e) r
/-- the heap grows -/
theorem Rel.same {L : List (U × V)} (r : Rel K fa H L) (g : Same H H') : Rel K fa H' L := by
  obtain ⟨A, n, h⟩ := r
  exact ⟨A, n, RL.go (Go.same g) (fun a _ o e => g a o e) h⟩
theorem RL.append : ∀ {L M : List (U × V)} {A : List Addr}, RL K fa D H (L ++ M) A ↔ ∃ A1 A2, A = A1 ++ A2 ∧ RL K fa D H L A1 ∧ RL K fa D H M A2
  | [], M, A => ⟨fun h => ⟨[], A, rfl, rfl, h⟩, fun ⟨A1, A2, e, h1, h2⟩ => by
    have h1' : A1 = [] := h1
    subst h1'
    rw [e]; exact h2⟩
  | (u, v) :: L, M, A => ⟨fun ⟨A1, A2, e, h1, h2⟩ => by
    obtain ⟨B1, B2, e2, k1, k2⟩ := RL.append.mp h2
    exact ⟨A1 ++ B1, B2, by rw [e, e2, List.append_assoc], ⟨A1, B1, rfl, h1, k1⟩, k2⟩, fun ⟨A1, A2, e, ⟨B1, B2, e2, k1, k2⟩, h2⟩ =>
    ⟨B1, B2 ++ A2, by rw [e, e2, List.append_assoc], k1, RL.append.mpr ⟨B2, A2, rfl, k2, h2⟩⟩⟩
theorem RL.perm {L M : List (U × V)} (p : L.Perm M) : ∀ {A : List Addr}, RL K fa D H L A → ∃ B, A.Perm B ∧ RL K fa D H M B := by
  induction p with
  | nil => intro A h; exact ⟨A, .refl _, h⟩
  | cons x _ ih =>
    intro A h
    obtain ⟨A1, A2, rfl, h1, h2⟩ := h
    obtain ⟨B, p, q⟩ := ih h2
    exact ⟨A1 ++ B, p.append_left A1, A1, B, rfl, h1, q⟩
  | swap x y l =>
    intro A h
    obtain ⟨A1, A2, rfl, h1, ⟨B1, B2, rfl, h2, h3⟩⟩ := h
    refine ⟨B1 ++ (A1 ++ B2), ?_, B1, _, rfl, h2, A1, B2, rfl, h1, h3⟩
    rw [← List.append_assoc, ← List.append_assoc]
    exact List.perm_append_comm.append_right B2
  | trans _ _ ih1 ih2 =>
    intro A h
    obtain ⟨B, p, q⟩ := ih1 h
    obtain ⟨C, p2, q2⟩ := ih2 q
    exact ⟨C, p.trans p2, q2⟩
theorem Rel.perm {L M : List (U × V)} (r : Rel K fa H L) (p : L.Perm M) : Rel K fa H M := by
  obtain ⟨A, n, h⟩ := r
  obtain ⟨B, q, h2⟩ := RL.perm p h
  exact ⟨B, q.nodup_iff.mp n, RL.ban (fun a _ z => q.mem_iff.mpr z) h2⟩
theorem Rel.tail {u : U} {v : V} {L : List (U × V)} (r : Rel K fa H ((u, v) :: L)) : Rel K fa H L := by
  obtain ⟨A, n, A1, A2, rfl, h1, h2⟩ := r
  exact ⟨A2, (List.nodup_append.mp n).2.1, RL.ban (fun a _ z => List.mem_append_right _ z) h2⟩
theorem Rel.drop {M : List (U × V)} : ∀ {L : List (U × V)}, Rel K fa H (L ++ M) → Rel K fa H M
  | [], h => h
  | (u, v) :: L, h => Rel.drop (L := L) (Rel.tail h)
/-- a value that owns nothing -/
def U.fre : U → Prop
  | .o _ => False
  | .r _ => False
  | _ => True
theorem UR.nil {u : U} {v : V} {A : List Addr} (f : u.fre) (h : UR K fa D H u v A) : A = [] := by
  cases u with
  | d x => exact h.1
  | o x => exact f.elim
  | r x => exact f.elim
  | f k => exact h.1
  | s xs => exact h.1
  | b i => exact h
  | gone => exact h
theorem Rel.dup {u : U} {v : V} {L : List (U × V)} (f : u.fre) (r : Rel K fa H ((u, v) :: L)) : Rel K fa H ((u, v) :: (u, v) :: L) := by
  obtain ⟨A, n, A1, A2, rfl, h1, h2⟩ := r
  have e := h1.nil f
  subst e
  exact ⟨A2, n, [], A2, rfl, h1, [], A2, rfl, h1, h2⟩
/-- flat data -/
def fltD : PyData → Bool
  | .none => true
  | .bool _ => true
  | .int _ => true
  | .str _ => true
  | _ => false
theorem Rel.addV {u : U} {v : V} {L : List (U × V)} (r : Rel K fa H L) (h : ∀ D : Ban, UR K fa D H u v []) : Rel K fa H ((u, v) :: L) := by
  obtain ⟨A, n, hr⟩ := r
  exact ⟨A, n, [], A, rfl, h _, hr⟩
theorem Rel.int {i : Int} {L : List (U × V)} (r : Rel K fa H L) : Rel K fa H ((.d (.int i), .int i) :: L) := r.addV fun D => ⟨rfl, by unfold Dq; rfl⟩
theorem Rel.bl {i : Bool} {L : List (U × V)} (r : Rel K fa H L) : Rel K fa H ((.d (.bool i), .bl i) :: L) := r.addV fun D => ⟨rfl, by unfold Dq; rfl⟩
theorem Rel.str {i : Str} {L : List (U × V)} (r : Rel K fa H L) : Rel K fa H ((.d (.str i), .str i) :: L) := r.addV fun D => ⟨rfl, by unfold Dq; rfl⟩
theorem Rel.non {L : List (U × V)} (r : Rel K fa H L) : Rel K fa H ((.d .none, .non) :: L) := r.addV fun D => ⟨rfl, by unfold Dq; rfl⟩
/-- the head, by the ban that stands -/
theorem Rel.head {u : U} {v : V} {L : List (U × V)} (r : Rel K fa H ((u, v) :: L)) : ∃ (D : Ban) (A : List Addr), UR K fa D H u v A ∧ (∀ a, D a → H a ≠ none → True) := by
  obtain ⟨A, n, A1, A2, rfl, h1, h2⟩ := r
  exact ⟨_, A1, h1, fun _ _ _ => trivial⟩
theorem Rel.d {x : PyData} {v : V} {L : List (U × V)} (r : Rel K fa H ((.d x, v) :: L)) : ∃ D : Ban, Dq K D H x v := by
  obtain ⟨A, n, A1, A2, rfl, h1, h2⟩ := r
  exact ⟨_, h1.2⟩
theorem Rel.mem {u : U} {v : V} {L : List (U × V)} (r : Rel K fa H L) (m : (u, v) ∈ L) : ∃ M, Rel K fa H ((u, v) :: M) := by
  obtain ⟨s, t, rfl⟩ := List.append_of_mem m
  exact ⟨s ++ t, r.perm List.perm_middle⟩
mutual
theorem Ow.at (o : O) (v : V) (A : List Addr) (h : Ow K D H o v A) : ∀ a ∈ A, H a ≠ none ∧ Mut (H a) := by
  cases o with
  | leaf x => unfold Ow at h; rw [h.1]; intro a z; cases z
  | lst xs =>
    unfold Ow at h
    obtain ⟨a, vs, As, e, rfl, ha, hl⟩ := h
    intro b hb
    rcases List.mem_cons.mp hb with rfl | hb
    · rw [ha]; exact ⟨by simp, trivial⟩
    · exact OwL.at xs vs As hl b hb
  | dic xs =>
    unfold Ow at h
    obtain ⟨a, vs, As, e, rfl, nd, ha, hl⟩ := h
    intro b hb
    rcases List.mem_cons.mp hb with rfl | hb
    · rw [ha]; exact ⟨by simp, trivial⟩
    · exact OwK.at xs vs As hl b hb
  | dit xs =>
    unfold Ow at h
    obtain ⟨a, vs, As, e, rfl, _, ha, hl⟩ := h
    intro b hb
    rcases List.mem_cons.mp hb with rfl | hb
    · rw [ha]; exact ⟨by simp, trivial⟩
    · exact OwT.at xs vs As hl b hb
theorem OwL.at (o : List O) (v : List V) (A : List Addr) (h : OwL K D H o v A) : ∀ a ∈ A, H a ≠ none ∧ Mut (H a) := by
  cases o with
  | nil => unfold OwL at h; rw [h.2]; intro a z; cases z
  | cons o os =>
    unfold OwL at h
    obtain ⟨v, r, A1, A2, e, rfl, h1, h2⟩ := h
    intro b hb
    exact (List.mem_append.mp hb).elim (Ow.at o v A1 h1 b) (OwL.at os r A2 h2 b)
theorem OwK.at (o : List (Key × O)) (v : List (Key × V)) (A : List Addr) (h : OwK K D H o v A) : ∀ a ∈ A, H a ≠ none ∧ Mut (H a) := by
  match o, h with
  | [], h => unfold OwK at h; rw [h.2]; intro a z; cases z
  | (k, o) :: os, h =>
    unfold OwK at h
    obtain ⟨v, r, A1, A2, e, rfl, h1, h2⟩ := h
    intro b hb
    exact (List.mem_append.mp hb).elim (Ow.at o v A1 h1 b) (OwK.at os r A2 h2 b)
theorem OwT.at (o : List (List Key × O)) (v : List (List Key × V)) (A : List Addr) (h : OwT K D H o v A) : ∀ a ∈ A, H a ≠ none ∧ Mut (H a) := by
  match o, h with
  | [], h => unfold OwT at h; rw [h.2]; intro a z; cases z
  | (k, o) :: os, h =>
    unfold OwT at h
    obtain ⟨v, r, A1, A2, e, rfl, h1, h2⟩ := h
    intro b hb
    exact (List.mem_append.mp hb).elim (Ow.at o v A1 h1 b) (OwT.at os r A2 h2 b)
end
theorem UR.at {u : U} {v : V} {A : List Addr} (h : UR K fa D H u v A) : ∀ a ∈ A, H a ≠ none ∧ Mut (H a) := by
  cases u with
  | o x => exact Ow.at x v A h
  | r x =>
    obtain ⟨a, e, rfl, h1, h2⟩ := h
    intro b hb
    have : b = a := by simpa using hb
    subst this
    rw [h1]
    exact ⟨by simp, h2⟩
  | d x => rw [h.1]; intro a z; cases z
  | f x => rw [h.1]; intro a z; cases z
  | b x => have e : A = [] := h; rw [e]; intro a z; cases z
  | s xs => have e : A = [] := h.1; rw [e]; intro a z; cases z
  | gone => have e : A = [] := h; rw [e]; intro a z; cases z
theorem RL.at : ∀ {L : List (U × V)} {A : List Addr}, RL K fa D H L A → ∀ a ∈ A, H a ≠ none ∧ Mut (H a)
  | [], A, h => by have e : A = [] := h; rw [e]; intro a z; cases z
  | (u, v) :: L, A, ⟨A1, A2, e, h1, h2⟩ => by
    subst e
    intro b hb
    exact (List.mem_append.mp hb).elim (h1.at b) (RL.at h2 b)
/-- several values as data -/
def dats : List U → Option (List PyData)
  | [] => some []
  | .d x :: us => (dats us).map (x :: ·)
  | _ :: _ => none
theorem RL.dats : ∀ {us : List U} {vs : List V} {xs : List PyData} {A : List Addr}, RL K fa D H (us.zip vs) A → us.length = vs.length → Fi.dats us = some xs → DqL K D H xs vs
  | [], [], xs, A, h, _, e => by cases e; unfold DqL; rfl
  | [], _ :: _, _, _, _, l, _ => by cases l
  | _ :: _, [], _, _, _, l, _ => by cases l
  | u :: us, v :: vs, xs, A, ⟨A1, A2, e1, h1, h2⟩, l, e => by
    cases u with
    | d x =>
      unfold Fi.dats at e
      cases q : Fi.dats us with
      | none => rw [q] at e; cases e
      | some ys =>
        rw [q] at e
        cases e
        unfold DqL
        exact ⟨v, vs, rfl, h1.2, RL.dats h2 (by simpa using l) q⟩
    | _ => cases e
theorem RL.datNil : ∀ {us : List U} {vs : List V} {xs : List PyData} {A : List Addr}, RL K fa D H (us.zip vs) A → Fi.dats us = some xs → A = []
  | [], _, _, _, h, _ => h
  | _ :: _, [], _, _, h, _ => h
  | u :: us, v :: vs, xs, A, ⟨A1, A2, e1, h1, h2⟩, e => by
    cases u with
    | d x =>
      unfold Fi.dats at e
      cases q : Fi.dats us with
      | none => rw [q] at e; cases e
      | some ys => rw [e1, h1.1, RL.datNil h2 q]; rfl
    | _ => cases e
/-- several values at the front -/
theorem Rel.front {us : List U} {vs : List V} {xs : List PyData} {L : List (U × V)} (r : Rel K fa H (us.zip vs ++ L)) (l : us.length = vs.length) (e : dats us = some xs) : ∃ A : List Addr, A.Nodup ∧ DqL K (· ∈ A) H xs vs ∧ RL K fa (· ∈ A) H L A := by
  obtain ⟨A, n, h⟩ := r
  obtain ⟨A1, A2, rfl, h1, h2⟩ := RL.append.mp h
  have := RL.datNil h1 e
  subst this
  exact ⟨A2, n, RL.dats h1 l e, h2⟩
/-- a new tuple -/
theorem Rel.newT {us : List U} {vs : List V} {xs : List PyData} {L : List (U × V)} {p : Addr} (r : Rel K fa H (us.zip vs ++ L)) (l : us.length = vs.length) (e : dats us = some xs) (hp : H p = none) : Rel K fa (upd H p (.tup vs)) ((.d (.tuple xs), .ref p) :: L) := by
  obtain ⟨A, n, h1, h2⟩ := r.front l e
  have g := Go.same (K := K) (D := (· ∈ A)) (same_new hp (.tup vs))
  refine ⟨A, n, [], A, rfl, ⟨rfl, ?_⟩, RL.go g (fun a ha o e => same_new hp _ a o e) h2⟩
  unfold Dq
  exact ⟨p, vs, rfl, SqT.of upd_same, DqL.go g _ _ h1⟩
theorem Rel.newT' {vs : List V} {xs : List PyData} {L : List (U × V)} {p : Addr} (r : Rel K fa H L) (h : ∀ A : List Addr, RL K fa (· ∈ A) H L A → DqL K (· ∈ A) H xs vs) (hp : H p = none) : Rel K fa (upd H p (.tup vs)) ((.d (.tuple xs), .ref p) :: L) := by
  obtain ⟨A, n, hr⟩ := r
  have g := Go.same (K := K) (D := (· ∈ A)) (same_new hp (.tup vs))
  refine ⟨A, n, [], A, rfl, ⟨rfl, ?_⟩, RL.go g (fun a ha o e => same_new hp _ a o e) hr⟩
  unfold Dq
  exact ⟨p, vs, rfl, SqT.of upd_same, DqL.go g _ _ (h A hr)⟩
theorem OwL.leaf : ∀ {xs : List PyData} {vs : List V}, DqL K D H xs vs → OwL K D H (xs.map .leaf) vs []
  | [], vs, h => by unfold DqL at h; show OwL K D H [] vs []; unfold OwL; exact ⟨h, rfl⟩
  | x :: xs, vs, h => by
    unfold DqL at h
    obtain ⟨v, r, e, h1, h2⟩ := h
    show OwL K D H (.leaf x :: xs.map .leaf) vs []
    unfold OwL
    exact ⟨v, r, [], [], e, rfl, by unfold Ow; exact ⟨rfl, h1⟩, OwL.leaf h2⟩
/-- a new list of data -/
theorem Rel.newL' {vs : List V} {xs : List PyData} {L : List (U × V)} {p : Addr} (r : Rel K fa H L) (h : ∀ A : List Addr, RL K fa (· ∈ A) H L A → DqL K (· ∈ A) H xs vs) (hp : H p = none) : Rel K fa (upd H p (.lst vs)) ((.o (.lst (xs.map .leaf)), .ref p) :: L) := by
  obtain ⟨A, n, hr⟩ := r
  have np : p ∉ A := fun z => (hr.at p z).1 hp
  have g : Go K (· ∈ A) (· ∈ p :: A) H (upd H p (.lst vs)) := Go.trans (Go.ban (D' := (· ∈ p :: A)) fun a ha z => by
    rcases List.mem_cons.mp z with rfl | z
    · exact absurd hp ha
    · exact z) (Go.same (same_new hp _))
  refine ⟨p :: A, List.nodup_cons.mpr ⟨np, n⟩, [p], A, rfl, ?_, RL.go g (fun a ha o e => same_new hp _ a o e) hr⟩
  show Ow K _ _ (.lst (xs.map .leaf)) (.ref p) [p]
  unfold Ow
  exact ⟨p, vs, [], rfl, rfl, upd_same, OwL.leaf (DqL.go g _ _ (h A hr))⟩
/-- the children of a new list -/
def chO : List U → Option (List O)
  | [] => some []
  | .d x :: us => (chO us).map (.leaf x :: ·)
  | .o x :: us => (chO us).map (x :: ·)
  | _ :: _ => none
theorem RL.chO : ∀ {us : List U} {vs : List V} {os : List O} {A : List Addr}, RL K fa D H (us.zip vs) A → us.length = vs.length → Fi.chO us = some os → OwL K D H os vs A
  | [], [], os, A, h, _, e => by cases e; unfold OwL; exact ⟨rfl, h⟩
  | [], _ :: _, _, _, _, l, _ => by cases l
  | _ :: _, [], _, _, _, l, _ => by cases l
  | u :: us, v :: vs, xs, A, ⟨A1, A2, e1, h1, h2⟩, l, e => by
    unfold Fi.chO at e
    cases u with
    | d x =>
      cases q : Fi.chO us with
      | none => simp only [q] at e; cases e
      | some ys =>
        simp only [q] at e
        cases e
        unfold OwL
        exact ⟨v, vs, A1, A2, rfl, e1, by unfold Ow; exact h1, RL.chO h2 (by simpa using l) q⟩
    | o x =>
      cases q : Fi.chO us with
      | none => simp only [q] at e; cases e
      | some ys =>
        simp only [q] at e
        cases e
        unfold OwL
        exact ⟨v, vs, A1, A2, rfl, e1, h1, RL.chO h2 (by simpa using l) q⟩
    | _ => cases e
theorem Rel.newL {us : List U} {vs : List V} {os : List O} {L : List (U × V)} {p : Addr} (r : Rel K fa H (us.zip vs ++ L)) (l : us.length = vs.length) (e : chO us = some os) (hp : H p = none) : Rel K fa (upd H p (.lst vs)) ((.o (.lst os), .ref p) :: L) := by
  obtain ⟨A, n, h⟩ := r
  have np : p ∉ A := fun z => (h.at p z).1 hp
  obtain ⟨A1, A2, rfl, h1, h2⟩ := RL.append.mp h
  have g : Go K (· ∈ A1 ++ A2) (· ∈ p :: (A1 ++ A2)) H (upd H p (.lst vs)) := Go.trans (Go.ban (D' := (· ∈ p :: (A1 ++ A2))) fun a ha z => by
    rcases List.mem_cons.mp z with rfl | z
    · exact absurd hp ha
    · exact z) (Go.same (same_new hp _))
  have ke : ∀ B, Ke H (upd H p (.lst vs)) B := fun B a ha o e => same_new hp _ a o e
  refine ⟨p :: (A1 ++ A2), List.nodup_cons.mpr ⟨np, n⟩, p :: A1, A2, rfl, ?_, RL.go g (ke _) h2⟩
  show Ow K _ _ (.lst os) (.ref p) (p :: A1)
  unfold Ow
  exact ⟨p, vs, A1, rfl, rfl, upd_same, OwL.go g _ _ _ (ke _) (RL.chO h1 l e)⟩
/-! ### own becomes data -/
mutual
theorem Ow.frz (ok : ∀ a, H a ≠ none → D' a → D a) : ∀ (o : O) (v : V) (A : List Addr), (∀ a ∈ A, ¬ D' a) → Ow K D H o v A → Dq K D' H (frz o) v
  | .leaf x, v, A, n, h => by
    unfold Ow at h
    unfold Fi.frz
    exact Dq.go (Go.ban ok) x v h.2
  | .lst xs, v, A, n, h => by
    unfold Ow at h
    obtain ⟨a, vs, As, e, rfl, ha, hl⟩ := h
    unfold Fi.frz Dq
    exact ⟨a, vs, e, n a List.mem_cons_self, ha, OwL.frz ok xs vs As (fun b hb => n b (List.mem_cons_of_mem _ hb)) hl⟩
  | .dic xs, v, A, n, h => by
    unfold Ow at h
    obtain ⟨a, vs, As, e, rfl, nd, ha, hl⟩ := h
    unfold Fi.frz Dq
    exact ⟨a, e, n a List.mem_cons_self, .inl ⟨vs, ha, OwK.frz ok xs vs As (fun b hb => n b (List.mem_cons_of_mem _ hb)) hl⟩⟩
  | .dit xs, v, A, n, h => by
    unfold Ow at h
    obtain ⟨a, vs, As, e, rfl, ne, ha, hl⟩ := h
    unfold Fi.frz Dq
    exact ⟨a, e, n a List.mem_cons_self, .inr ⟨vs, ne, ha, OwT.frz ok xs vs As (fun b hb => n b (List.mem_cons_of_mem _ hb)) hl⟩⟩
theorem OwL.frz (ok : ∀ a, H a ≠ none → D' a → D a) : ∀ (o : List O) (v : List V) (A : List Addr), (∀ a ∈ A, ¬ D' a) → OwL K D H o v A → DqL K D' H (frzL o) v
  | [], v, A, n, h => by unfold OwL at h; unfold Fi.frzL DqL; exact h.1
  | o :: os, v, A, n, h => by
    unfold OwL at h
    obtain ⟨v, r, A1, A2, e, rfl, h1, h2⟩ := h
    unfold Fi.frzL DqL
    exact ⟨v, r, e, Ow.frz ok o v A1 (fun b hb => n b (List.mem_append_left _ hb)) h1, OwL.frz ok os r A2 (fun b hb => n b (List.mem_append_right _ hb)) h2⟩
theorem OwK.frz (ok : ∀ a, H a ≠ none → D' a → D a) : ∀ (o : List (Key × O)) (v : List (Key × V)) (A : List Addr), (∀ a ∈ A, ¬ D' a) → OwK K D H o v A → DqK K D' H (frzK o) v
  | [], v, A, n, h => by unfold OwK at h; unfold Fi.frzK DqK; exact h.1
  | (k, o) :: os, v, A, n, h => by
    unfold OwK at h
    obtain ⟨v, r, A1, A2, e, rfl, h1, h2⟩ := h
    unfold Fi.frzK DqK
    exact ⟨k, v, r, e, rfl, Ow.frz ok o v A1 (fun b hb => n b (List.mem_append_left _ hb)) h1, OwK.frz ok os r A2 (fun b hb => n b (List.mem_append_right _ hb)) h2⟩
theorem OwT.frz (ok : ∀ a, H a ≠ none → D' a → D a) : ∀ (o : List (List Key × O)) (v : List (List Key × V)) (A : List Addr), (∀ a ∈ A, ¬ D' a) → OwT K D H o v A → DqT K D' H (frzT o) v
  | [], v, A, n, h => by unfold OwT at h; unfold Fi.frzT DqT; exact h.1
  | (k, o) :: os, v, A, n, h => by
    unfold OwT at h
    obtain ⟨v, r, A1, A2, e, rfl, h1, h2⟩ := h
    unfold Fi.frzT DqT
    exact ⟨k, v, r, e, rfl, Ow.frz ok o v A1 (fun b hb => n b (List.mem_append_left _ hb)) h1, OwT.frz ok os r A2 (fun b hb => n b (List.mem_append_right _ hb)) h2⟩
end
abbrev B0 : Ban := fun _ => False
theorem Rel.frz {x : O} {v : V} {L : List (U × V)} (r : Rel K fa H ((.o x, v) :: L)) : Rel K fa H ((.d (frz x), v) :: L) := by
  obtain ⟨A, n, A1, A2, rfl, h1, h2⟩ := r
  have n' := List.nodup_append.mp n
  refine ⟨A2, n'.2.1, [], A2, rfl, ⟨rfl, ?_⟩, RL.ban (fun a _ z => List.mem_append_right _ z) h2⟩
  exact Ow.frz (fun a _ z => List.mem_append_right _ z) x v A1 (fun a ha z => n'.2.2 a ha a z rfl) h1
/-- looked at alone -/
theorem Ow.look {x : O} {v : V} {A : List Addr} (h : Ow K D H x v A) : Dq K B0 H (Fi.frz x) v := Ow.frz (fun _ _ z => z.elim) x v A (fun _ _ z => z) h
theorem Dq.free {x : PyData} {v : V} (h : Dq K D H x v) : Dq K B0 H x v := Dq.go (Go.ban fun _ _ z => z.elim) x v h
theorem DqL.free {x : List PyData} {v : List V} (h : DqL K D H x v) : DqL K B0 H x v := DqL.go (Go.ban fun _ _ z => z.elim) x v h
/-! ### an own object is opened and closed -/
theorem OwL.rl : ∀ {xs : List O} {vs : List V} {A : List Addr}, OwL K D H xs vs A ↔ vs.length = xs.length ∧ RL K fa D H ((xs.map U.o).zip vs) A
  | [], vs, A => by
    unfold OwL
    refine ⟨fun ⟨a, b⟩ => ⟨by rw [a]; rfl, b⟩, fun ⟨a, b⟩ => ⟨?_, b⟩⟩
    cases vs with
    | nil => rfl
    | cons _ _ => cases a
  | x :: xs, vs, A => by
    unfold OwL
    refine ⟨fun ⟨v, r, A1, A2, e, eA, h1, h2⟩ => ?_, fun ⟨l, h⟩ => ?_⟩
    · subst e
      have := OwL.rl.mp h2
      exact ⟨by simp [this.1], A1, A2, eA, h1, this.2⟩
    · cases vs with
      | nil => cases l
      | cons v r =>
        obtain ⟨A1, A2, eA, h1, h2⟩ := h
        exact ⟨v, r, A1, A2, rfl, eA, h1, OwL.rl.mpr ⟨by simpa using l, h2⟩⟩
theorem OwK.rl : ∀ {xs : List (Key × O)} {vs : List (Key × V)} {A : List Addr}, OwK K D H xs vs A ↔ vs.map (·.1) = xs.map (·.1) ∧ RL K fa D H ((xs.map fun p => U.o p.2).zip (vs.map (·.2))) A
  | [], vs, A => by
    unfold OwK
    refine ⟨fun ⟨a, b⟩ => ⟨by rw [a]; rfl, b⟩, fun ⟨a, b⟩ => ⟨?_, b⟩⟩
    cases vs with
    | nil => rfl
    | cons _ _ => cases a
  | (k, x) :: xs, vs, A => by
    unfold OwK
    refine ⟨fun ⟨v, r, A1, A2, e, eA, h1, h2⟩ => ?_, fun ⟨l, h⟩ => ?_⟩
    · subst e
      have := OwK.rl.mp h2
      exact ⟨by rw [List.map_cons, List.map_cons, this.1], A1, A2, eA, h1, this.2⟩
    · cases vs with
      | nil => cases l
      | cons v r =>
        obtain ⟨k2, v⟩ := v
        obtain ⟨A1, A2, eA, h1, h2⟩ := h
        rw [List.map_cons, List.map_cons] at l
        injection l with l1 l2
        have l1 : k2 = k := l1
        subst l1
        exact ⟨v, r, A1, A2, rfl, eA, h1, OwK.rl.mpr ⟨l2, h2⟩⟩
theorem OwT.rl : ∀ {xs : List (List Key × O)} {vs : List (List Key × V)} {A : List Addr}, OwT K D H xs vs A ↔ vs.map (·.1) = xs.map (·.1) ∧ RL K fa D H ((xs.map fun p => U.o p.2).zip (vs.map (·.2))) A
  | [], vs, A => by
    unfold OwT
    refine ⟨fun ⟨a, b⟩ => ⟨by rw [a]; rfl, b⟩, fun ⟨a, b⟩ => ⟨?_, b⟩⟩
    cases vs with
    | nil => rfl
    | cons _ _ => cases a
  | (k, x) :: xs, vs, A => by
    unfold OwT
    refine ⟨fun ⟨v, r, A1, A2, e, eA, h1, h2⟩ => ?_, fun ⟨l, h⟩ => ?_⟩
    · subst e
      have := OwT.rl.mp h2
      exact ⟨by rw [List.map_cons, List.map_cons, this.1], A1, A2, eA, h1, this.2⟩
    · cases vs with
      | nil => cases l
      | cons v r =>
        obtain ⟨k2, v⟩ := v
        obtain ⟨A1, A2, eA, h1, h2⟩ := h
        rw [List.map_cons, List.map_cons] at l
        injection l with l1 l2
        have l1 : k2 = k := l1
        subst l1
        exact ⟨v, r, A1, A2, rfl, eA, h1, OwT.rl.mpr ⟨l2, h2⟩⟩
theorem Rel.openL {xs : List O} {v : V} {L : List (U × V)} (r : Rel K fa H ((.o (.lst xs), v) :: L)) : ∃ a vs, v = .ref a ∧ H a = some (.lst vs) ∧ vs.length = xs.length ∧ Rel K fa H ((.r (.lst vs), .ref a) :: ((xs.map U.o).zip vs ++ L)) := by
  obtain ⟨A, n, A1, A2, rfl, h1, h2⟩ := r
  have h1 : Ow K _ H (.lst xs) v A1 := h1
  unfold Ow at h1
  obtain ⟨a, vs, As, rfl, rfl, ha, hl⟩ := h1
  obtain ⟨l, hr⟩ := (OwL.rl (fa := fa)).mp hl
  exact ⟨a, vs, rfl, ha, l, _, n, [a], As ++ A2, rfl, ⟨a, rfl, rfl, ha, trivial⟩, RL.append.mpr ⟨As, A2, rfl, hr, h2⟩⟩
theorem Rel.openK {xs : List (Key × O)} {v : V} {L : List (U × V)} (r : Rel K fa H ((.o (.dic xs), v) :: L)) : ∃ a vs, v = .ref a ∧ H a = some (.dK vs) ∧ (xs.map (·.1)).Nodup ∧ vs.map (·.1) = xs.map (·.1) ∧ Rel K fa H ((.r (.dK vs), .ref a) :: ((xs.map fun p => U.o p.2).zip (vs.map (·.2)) ++ L)) := by
  obtain ⟨A, n, A1, A2, rfl, h1, h2⟩ := r
  have h1 : Ow K _ H (.dic xs) v A1 := h1
  unfold Ow at h1
  obtain ⟨a, vs, As, rfl, rfl, nd, ha, hl⟩ := h1
  obtain ⟨l, hr⟩ := (OwK.rl (fa := fa)).mp hl
  exact ⟨a, vs, rfl, ha, nd, l, _, n, [a], As ++ A2, rfl, ⟨a, rfl, rfl, ha, trivial⟩, RL.append.mpr ⟨As, A2, rfl, hr, h2⟩⟩
theorem Rel.openT {xs : List (List Key × O)} {v : V} {L : List (U × V)} (r : Rel K fa H ((.o (.dit xs), v) :: L)) : ∃ a vs, v = .ref a ∧ H a = some (.dT vs) ∧ vs.map (·.1) = xs.map (·.1) ∧ Rel K fa H ((.r (.dT vs), .ref a) :: ((xs.map fun p => U.o p.2).zip (vs.map (·.2)) ++ L)) := by
  obtain ⟨A, n, A1, A2, rfl, h1, h2⟩ := r
  have h1 : Ow K _ H (.dit xs) v A1 := h1
  unfold Ow at h1
  obtain ⟨a, vs, As, rfl, rfl, _, ha, hl⟩ := h1
  obtain ⟨l, hr⟩ := (OwT.rl (fa := fa)).mp hl
  exact ⟨a, vs, rfl, ha, l, _, n, [a], As ++ A2, rfl, ⟨a, rfl, rfl, ha, trivial⟩, RL.append.mpr ⟨As, A2, rfl, hr, h2⟩⟩
/-- what stands in an own object is changed -/
theorem Rel.put {o o' : HO} {a : Addr} {L : List (U × V)} (r : Rel K fa H ((.r o, .ref a) :: L)) (mu : Mut (some o')) : Rel K fa (upd H a o') ((.r o', .ref a) :: L) := by
  obtain ⟨A, n, A1, A2, rfl, ⟨a', e, rfl, ha, mo⟩, h2⟩ := r
  cases e
  have na : a ∉ A2 := (List.nodup_cons.mp n).1
  refine ⟨[a] ++ A2, n, [a], A2, rfl, ⟨a, rfl, rfl, upd_same, mu⟩, RL.go (Go.put (by rw [ha]; exact mo) (List.mem_append_left _ List.mem_cons_self)) (fun b hb o e => ?_) h2⟩
  rw [upd_ne (fun z => na (by rw [← z]; exact hb))]
  exact e
theorem Rel.closeL {xs : List O} {vs : List V} {a : Addr} {L : List (U × V)} (l : vs.length = xs.length) (r : Rel K fa H ((.r (.lst vs), .ref a) :: ((xs.map U.o).zip vs ++ L))) : Rel K fa H ((.o (.lst xs), .ref a) :: L) := by
  obtain ⟨A, n, A1, A2, rfl, ⟨a', e, rfl, ha, mo⟩, h2⟩ := r
  cases e
  obtain ⟨B1, B2, rfl, k1, k2⟩ := RL.append.mp h2
  refine ⟨_, n, a :: B1, B2, rfl, ?_, k2⟩
  show Ow K _ H (.lst xs) (.ref a) (a :: B1)
  unfold Ow
  exact ⟨a, vs, B1, rfl, rfl, ha, (OwL.rl (fa := fa)).mpr ⟨l, k1⟩⟩
theorem Rel.closeK {xs : List (Key × O)} {vs : List (Key × V)} {a : Addr} {L : List (U × V)} (nd : (xs.map (·.1)).Nodup) (l : vs.map (·.1) = xs.map (·.1)) (r : Rel K fa H ((.r (.dK vs), .ref a) :: ((xs.map fun p => U.o p.2).zip (vs.map (·.2)) ++ L))) : Rel K fa H ((.o (.dic xs), .ref a) :: L) := by
  obtain ⟨A, n, A1, A2, rfl, ⟨a', e, rfl, ha, mo⟩, h2⟩ := r
  cases e
  obtain ⟨B1, B2, rfl, k1, k2⟩ := RL.append.mp h2
  refine ⟨_, n, a :: B1, B2, rfl, ?_, k2⟩
  show Ow K _ H (.dic xs) (.ref a) (a :: B1)
  unfold Ow
  exact ⟨a, vs, B1, rfl, rfl, nd, ha, (OwK.rl (fa := fa)).mpr ⟨l, k1⟩⟩
theorem Rel.closeT {xs : List (List Key × O)} {vs : List (List Key × V)} {a : Addr} {L : List (U × V)} (ne : vs ≠ []) (l : vs.map (·.1) = xs.map (·.1)) (r : Rel K fa H ((.r (.dT vs), .ref a) :: ((xs.map fun p => U.o p.2).zip (vs.map (·.2)) ++ L))) : Rel K fa H ((.o (.dit xs), .ref a) :: L) := by
  obtain ⟨A, n, A1, A2, rfl, ⟨a', e, rfl, ha, mo⟩, h2⟩ := r
  cases e
  obtain ⟨B1, B2, rfl, k1, k2⟩ := RL.append.mp h2
  refine ⟨_, n, a :: B1, B2, rfl, ?_, k2⟩
  show Ow K _ H (.dit xs) (.ref a) (a :: B1)
  unfold Ow
  exact ⟨a, vs, B1, rfl, rfl, ne, ha, (OwT.rl (fa := fa)).mpr ⟨l, k1⟩⟩
end
end Fi
namespace Fi
open PySem PySem.Spec PyProof.Rows L2
theorem DqL.length {K : PySem.W.Frag} {D : Ban} {H : Hp} : ∀ {ds : List PyData} {xs : List V}, DqL K D H ds xs → xs.length = ds.length
  | [], _, h => by unfold DqL at h; rw [h]; rfl
  | d :: ds, _, h => by
    unfold DqL at h
    obtain ⟨x, r, e, _, h2⟩ := h
    rw [e]
    show r.length + 1 = ds.length + 1
    rw [DqL.length h2]
theorem DqL.get {K : PySem.W.Frag} {D : Ban} {H : Hp} : ∀ {ds : List PyData} {xs : List V} {i : Nat} {d : PyData}, DqL K D H ds xs → ds[i]? = some d → ∃ x, xs[i]? = some x ∧ Dq K D H d x
  | [], _, _, _, _, e => by simp at e
  | d :: ds, _, 0, d', h, e => by
    unfold DqL at h
    obtain ⟨x, r, rfl, h1, h2⟩ := h
    have e' : d = d' := Option.some.inj e
    rw [← e']
    exact ⟨x, rfl, h1⟩
  | d :: ds, _, i + 1, d', h, e => by
    unfold DqL at h
    obtain ⟨x, r, rfl, h1, h2⟩ := h
    obtain ⟨y, e1, e2⟩ := DqL.get (i := i) h2 e
    exact ⟨y, e1, e2⟩
theorem DqL.getV {K : PySem.W.Frag} {D : Ban} {H : Hp} {ds : List PyData} {xs : List V} {i : Nat} {x : V} (h : DqL K D H ds xs) (e : xs[i]? = some x) : ∃ d, ds[i]? = some d ∧ Dq K D H d x := by
  have hl := h.length
  have hi : i < ds.length := by
    rw [← hl]
    cases Nat.lt_or_ge i xs.length with
    | inl z => exact z
    | inr z => rw [List.getElem?_eq_none_iff.mpr z] at e; cases e
  obtain ⟨y, e1, e2⟩ := h.get (List.getElem?_eq_getElem hi)
  rw [e] at e1
  have e3 : x = y := Option.some.inj e1
  rw [e3]
  exact ⟨_, List.getElem?_eq_getElem hi, e2⟩
theorem DqL.append {K : PySem.W.Frag} {D : Ban} {H : Hp} : ∀ {ds es : List PyData} {xs ys : List V}, DqL K D H ds xs → DqL K D H es ys → DqL K D H (ds ++ es) (xs ++ ys)
  | [], _, _, _, h, k => by unfold DqL at h; rw [h]; exact k
  | d :: ds, _, _, _, h, k => by
    unfold DqL at h
    obtain ⟨x, r, rfl, h1, h2⟩ := h
    show DqL K D H (d :: (ds ++ _)) (x :: (r ++ _))
    unfold DqL
    exact ⟨x, _, rfl, h1, DqL.append h2 k⟩
theorem DqL.nil {K : PySem.W.Frag} {D : Ban} {H : Hp} : DqL K D H [] [] := by unfold DqL; rfl
theorem DqL.cons {K : PySem.W.Frag} {D : Ban} {H : Hp} {d : PyData} {ds : List PyData} {x : V} {xs : List V} (h : Dq K D H d x) (k : DqL K D H ds xs) : DqL K D H (d :: ds) (x :: xs) := by unfold DqL; exact ⟨x, xs, rfl, h, k⟩
theorem DqL.take {K : PySem.W.Frag} {D : Ban} {H : Hp} : ∀ {ds : List PyData} {xs : List V} (n : Nat), DqL K D H ds xs → DqL K D H (ds.take n) (xs.take n)
  | _, _, 0, _ => by rw [List.take_zero, List.take_zero]; exact DqL.nil
  | [], _, n + 1, h => by unfold DqL at h; rw [h]; exact DqL.nil
  | d :: ds, _, n + 1, h => by
    unfold DqL at h
    obtain ⟨x, r, rfl, h1, h2⟩ := h
    exact DqL.cons h1 (DqL.take n h2)
theorem DqL.drop {K : PySem.W.Frag} {D : Ban} {H : Hp} : ∀ {ds : List PyData} {xs : List V} (n : Nat), DqL K D H ds xs → DqL K D H (ds.drop n) (xs.drop n)
  | _, _, 0, h => h
  | [], _, n + 1, h => by unfold DqL at h; rw [h]; exact DqL.nil
  | d :: ds, _, n + 1, h => by
    unfold DqL at h
    obtain ⟨x, r, rfl, h1, h2⟩ := h
    exact DqL.drop n h2
theorem DqL.reverse {K : PySem.W.Frag} {D : Ban} {H : Hp} : ∀ {ds : List PyData} {xs : List V}, DqL K D H ds xs → DqL K D H ds.reverse xs.reverse
  | [], _, h => by unfold DqL at h; rw [h]; exact DqL.nil
  | d :: ds, _, h => by
    unfold DqL at h
    obtain ⟨x, r, rfl, h1, h2⟩ := h
    rw [List.reverse_cons, List.reverse_cons]
    exact (DqL.reverse h2).append (DqL.cons h1 DqL.nil)
theorem DqL.strs {K : PySem.W.Frag} {D : Ban} {H : Hp} : ∀ (ys : List Str), DqL K D H (ys.map PyData.str) (ys.map V.str)
  | [] => DqL.nil
  | y :: ys => DqL.cons (by unfold Dq; rfl) (DqL.strs ys)
section
variable {X : Cx} {pins : List (Addr × Obj)} {σ : L2.St} {H : Hp} {s : Shared} {D : Ban}
theorem paired_map2 {α β : Type} {F : α → β → Prop} : ∀ {l : List α} {m : List β}, Paired F l m → l.length = m.length
  | _, _, .nil => rfl
  | _, _, .cons _ t => by show _ + 1 = _ + 1; rw [paired_map2 t]
theorem key_reads {h : Heap} {j : Key} {u : Value} (e : keyIs j u = true) : Reads h u (keyD j) [] := by
  rcases keyIs_shape e with ⟨i, t, rfl, rfl⟩ | ⟨x, t, rfl, rfl⟩
  · exact Reads.int i t
  · exact Reads.str x t
mutual
theorem Dq.reads (I : Inv X pins σ H s) (hs : H sysModules = none) : ∀ (d : PyData) (v : V) (u : Value), Dq X.K D H d v → RelV v u → ∃ as, Reads s.heap u d as ∧ sysModules ∉ as
  | .none, _, _, h, r => by unfold Dq at h; rw [h] at r; cases r; exact ⟨[], Reads.none, by simp⟩
  | .bool b, _, _, h, r => by unfold Dq at h; rw [h] at r; cases r; exact ⟨[], Reads.bool b, by simp⟩
  | .int i, _, _, h, r => by unfold Dq at h; rw [h] at r; obtain ⟨t, rfl⟩ := r; exact ⟨[], Reads.int i t, by simp⟩
  | .str x, _, _, h, r => by unfold Dq at h; rw [h] at r; obtain ⟨t, rfl⟩ := r; exact ⟨[], Reads.str x t, by simp⟩
  | .list ds, _, _, h, r => by
    unfold Dq at h
    obtain ⟨a, xs, rfl, n, ha, hl⟩ := h
    cases r
    obtain ⟨_, its, k, rv, ho⟩ := (show ObjOk X.prog X.w H s.heap a (.lst xs) from I.hok a _ ha)
    obtain ⟨as, q1, q2⟩ := Dq.readsL I hs ds xs its hl rv
    refine ⟨a :: as, Reads.list ho rfl rfl (by simpa using q1), fun z => ?_⟩
    rcases List.mem_cons.mp z with z | z
    · rw [z, ha] at hs; cases hs
    · exact q2 z
  | .tuple ds, _, _, h, r => by
    unfold Dq at h
    obtain ⟨a, xs, rfl, ha, hl⟩ := h
    cases r
    obtain ⟨its, rv, ⟨o, ho, hc, k, hd⟩, _⟩ := I.tuple ha
    obtain ⟨as, q1, q2⟩ := Dq.readsL I hs ds xs its hl rv
    exact ⟨as, Reads.tuple ho hc hd (by simpa using q1), q2⟩
  | .dict kvs, _, _, h, r => by
    unfold Dq at h
    obtain ⟨a, rfl, n, h⟩ := h
    cases r
    rcases h with ⟨ys, ha, hl⟩ | ⟨ys, _, ha, hl⟩
    · obtain ⟨_, hm, vs, rv, o, es, ep, ho, hc, hd, _, hp, _⟩ := (show ObjOk X.prog X.w H s.heap a (.dK ys) from I.hok a _ ha)
      obtain ⟨bs, q1, q2, q3⟩ := Dq.readsK I hs kvs ys vs es.toList hl rv hp
      refine ⟨a :: [] ++ bs, Reads.dict ho hc.1 hd q1 q2, fun z => ?_⟩
      rcases List.mem_cons.mp z with z | z
      · rw [← z] at hm
        simp at hm
      · exact q3 z
    · obtain ⟨_, hm, xs, rv, o, es, ep, ho, hc, hd, he, _⟩ := (show ObjOk X.prog X.w H s.heap a (.dT ys) from I.hok a _ ha)
      obtain ⟨bs, q1, q2, q3⟩ := Dq.readsT I hs kvs ys xs hl rv
      rw [← he] at q1 q2
      refine ⟨a :: [] ++ bs, Reads.dict ho hc.1 hd q1 q2, fun z => ?_⟩
      rcases List.mem_cons.mp z with z | z
      · rw [← z] at hm
        simp at hm
      · exact q3 z
theorem Dq.readsK (I : Inv X pins σ H s) (hs : H sysModules = none) : ∀ (kvs : List (PyData × PyData)) (ys : List (Key × V)) (vs : List (Key × Value)) (es : List DictEntry), DqK X.K D H kvs ys → KV ys vs → PySem.Pairs (mixKind X.prog X.w) es vs →
    ∃ bs, ReadsAll s.heap (es.map (·.key)) (kvs.map (·.1)) [] ∧ ReadsAll s.heap (es.map (·.val)) (kvs.map (·.2)) bs ∧ sysModules ∉ bs
  | [], _, _, _, h, r, p => by
    unfold DqK at h
    subst h
    cases r
    cases p
    exact ⟨[], ReadsAll.nil, ReadsAll.nil, by simp⟩
  | (k, d) :: kvs, _, _, _, h, r, p => by
    unfold DqK at h
    obtain ⟨j, x, t, rfl, rfl, h1, h2⟩ := h
    cases r with
    | cons r1 r2 =>
      cases p with
      | cons p1 p2 p3 =>
        obtain ⟨r3, r4⟩ := r1
        obtain ⟨bs, q1, q2, q3⟩ := Dq.readsK I hs kvs _ _ _ h2 r2 p3
        obtain ⟨as, q4, q5⟩ := Dq.reads I hs d _ _ h1 r4
        rw [← p2] at q4
        refine ⟨as ++ bs, ?_, ReadsAll.cons q4 q2, fun z => (List.mem_append.mp z).elim q5 q3⟩
        have q6 := key_reads (h := s.heap) (j := j) (u := _) (by rw [show j = _ from r3]; exact p1)
        exact ReadsAll.cons (as := []) q6 q1
theorem Dq.readsT (I : Inv X pins σ H s) (hs : H sysModules = none) : ∀ (kvs : List (PyData × PyData)) (ys : List (List Key × V)) (xs : List (List Key × Addr × Value)), DqT X.K D H kvs ys →
    Paired (fun (p : List Key × V) (q : List Key × Addr × Value) => p.1 = q.1 ∧ H q.2.1 = some (.tup (p.1.map kV)) ∧ RelV p.2 q.2.2) ys xs →
    ∃ bs, ReadsAll s.heap ((xs.map (entryOfKey (tupleKind (mixKind X.prog X.w)))).map (·.key)) (kvs.map (·.1)) [] ∧ ReadsAll s.heap ((xs.map (entryOfKey (tupleKind (mixKind X.prog X.w)))).map (·.val)) (kvs.map (·.2)) bs ∧ sysModules ∉ bs
  | [], _, _, h, r => by
    unfold DqT at h
    subst h
    cases r
    exact ⟨[], ReadsAll.nil, ReadsAll.nil, by simp⟩
  | (k, d) :: kvs, _, _, h, r => by
    unfold DqT at h
    obtain ⟨j, x, t, rfl, rfl, h1, h2⟩ := h
    cases r with
    | cons r1 r2 =>
      obtain ⟨r3, r5, r4⟩ := r1
      obtain ⟨bs, q1, q2, q3⟩ := Dq.readsT I hs kvs _ _ h2 r2
      obtain ⟨as, q4, q5⟩ := Dq.reads I hs d _ _ h1 r4
      refine ⟨as ++ bs, ?_, ReadsAll.cons q4 q2, fun z => (List.mem_append.mp z).elim q5 q3⟩
      obtain ⟨_, its, rv, o, ho, hc, k, hd⟩ := (show ObjOk X.prog X.w H s.heap _ (.tup _) from I.hok _ _ r5)
      refine ReadsAll.cons (as := []) (Reads.tuple ho hc hd (as := []) ?_) q1
      have : ∀ (j : List Key) (us : List Value), Vals (j.map kV) us → ReadsAll s.heap us (j.map keyD) [] := fun j => by
        induction j with
        | nil => intro us h; cases h; exact ReadsAll.nil
        | cons k r ih =>
          intro us h
          cases h with
          | cons p q =>
            refine ReadsAll.cons (as := []) ?_ (ih _ q)
            cases k with
            | inl i => obtain ⟨t, rfl⟩ := p; exact Reads.int i t
            | inr i => obtain ⟨t, rfl⟩ := p; exact Reads.str i t
      simpa using this _ _ rv
theorem Dq.readsL (I : Inv X pins σ H s) (hs : H sysModules = none) : ∀ (ds : List PyData) (xs : List V) (us : List Value), DqL X.K D H ds xs → Vals xs us → ∃ as, ReadsAll s.heap us ds as ∧ sysModules ∉ as
  | [], _, _, h, r => by unfold DqL at h; rw [h] at r; cases r; exact ⟨[], ReadsAll.nil, by simp⟩
  | d :: ds, _, _, h, r => by
    unfold DqL at h
    obtain ⟨x, t, rfl, h1, h2⟩ := h
    cases r with
    | cons r1 r2 =>
      obtain ⟨as, q1, q2⟩ := Dq.reads I hs d _ _ h1 r1
      obtain ⟨bs, q3, q4⟩ := Dq.readsL I hs ds _ _ h2 r2
      exact ⟨as ++ bs, ReadsAll.cons q1 q3, fun z => (List.mem_append.mp z).elim q2 q4⟩
end
end
open PySem.SeqAt PySem.MeetsSeq
section
variable {A : Around} {s : Shared}
theorem dict_no_str (l : Addr) (es : Array DictEntry) (n : Nat) (dd : Option Addr) (sl : Array (Option Value)) (b : Str) (u : Tok) :
    Meets (Builtin.«dict.__eq__» ⟨[.ref l, .str b u], []⟩) (fun _ R s => s.heap.get? l = some { cls := .type "dict", dict := dd, data := .dict es n, slots := sl } ∧ R (.ok (.ret .notImplemented)) s) :=
  .of_wp fun prog w A R s h => by
    obtain ⟨hp, g, d, tk, os⟩ := s
    obtain ⟨hl, h⟩ := h
    have f1 := F.sub_str_dict
    wp_walk using AutoSeq1.wpAny_loadPart' hl, wpAny_load hl
    exact ⟨_, rfl, h⟩
theorem str_no_dict (b : Str) (u : Tok) (l : Addr) (es : Array DictEntry) (n : Nat) (dd : Option Addr) (sl : Array (Option Value)) :
    Meets (Builtin.«str.__eq__» ⟨[.str b u, .ref l], []⟩) (fun _ R s => s.heap.get? l = some { cls := .type "dict", dict := dd, data := .dict es n, slots := sl } ∧ R (.ok (.ret .notImplemented)) s) :=
  .of_wp fun prog w A R s h => by
    obtain ⟨hp, g, d, tk, os⟩ := s
    obtain ⟨hl, h⟩ := h
    wp_walk using AutoSeq1.wpAny_loadPart' hl, wpAny_load hl
    exact ⟨_, rfl, h⟩
theorem rc_dict_str {l : Addr} {o : Obj} {es : Array DictEntry} {n : Nat} (b : Str) (u : Tok) (ho : s.heap.get? l = some o) (hc : o.cls = .type "dict") (hd : o.data = .dict es n) (hu : A.units < cLine) : RcAt A s (.ref l) (.str b u) false := fun prog w E Q h => by
  obtain ⟨cls, dd, data, sl⟩ := o
  simp only at hc hd
  subst hc hd
  refine rc_eq_decline_or (k := false) ⟨_, ho, rfl⟩ (typeIs_str s b u) (by decide) F.sub_str_dict F.slot_dict_eq F.slot_str_eq_refl (fun _ hq => ?_) (fun _ hq => ?_) (fun _ hq => wpAny_of_eq (rfl : isSame (.ref l) (.str b u) = pure false) hq) (.inr hu) h
  · exact call_meets F.slot_dict_eq ⟨_, ho, rfl⟩ F.entry_dict_eq (F.args_dict_eq_2 _ _) (dict_no_str l es n dd sl b u) ⟨ho, hq⟩
  · exact call_meets F.slot_str_eq_refl (typeIs_str s b u) F.entry_str_eq (F.args_str_eq_2 _ _) (str_no_dict b u l es n dd sl) ⟨ho, hq⟩
theorem rc_str_dict {l : Addr} {o : Obj} {es : Array DictEntry} {n : Nat} (b : Str) (u : Tok) (ho : s.heap.get? l = some o) (hc : o.cls = .type "dict") (hd : o.data = .dict es n) (hu : A.units < cLine) : RcAt A s (.str b u) (.ref l) false := fun prog w E Q h => by
  obtain ⟨cls, dd, data, sl⟩ := o
  simp only at hc hd
  subst hc hd
  refine rc_eq_decline_or (k := false) (typeIs_str s b u) ⟨_, ho, rfl⟩ (by decide) F.sub_dict_str F.slot_str_eq F.slot_dict_eq_refl (fun _ hq => ?_) (fun _ hq => ?_) (fun _ hq => wpAny_of_eq (rfl : isSame (.str b u) (.ref l) = pure false) hq) (.inr hu) h
  · exact call_meets F.slot_str_eq (typeIs_str s b u) F.entry_str_eq (F.args_str_eq_2 _ _) (str_no_dict b u l es n dd sl) ⟨ho, hq⟩
  · exact call_meets F.slot_dict_eq_refl ⟨_, ho, rfl⟩ F.entry_dict_eq (F.args_dict_eq_2 _ _) (dict_no_str l es n dd sl b u) ⟨ho, hq⟩
theorem eqAt_of_rc {z : Str} {t : Tok} {l : Addr} {b : Bool} (h : RcAt A s (.str z t) (.ref l) b) : EqAt A s (.str z t) (.ref l) b := fun prog w E Q q => by
  unfold eqBool
  refine wpAny_holding ?_
  exact wpAny_ite_split (fun hab => absurd (eq_of_beq hab) nofun) (fun _ => wpAny_bind (h prog w E _ (wpAny_truthy_bool q)))
end
/-- whether data is this text -/
def isS (z : Str) : PyData → Bool
  | .str x => decide (x = z)
  | _ => false
theorem isS_iff {z : Str} {d : PyData} : isS z d = true ↔ d = .str z := by
  cases d with
  | str x => simp [isS]
  | _ => simp [isS]
section
variable {X : Cx} {pins : List (Addr × Obj)} {σ : L2.St} {H : Hp} {s : Shared} {D : Ban}
theorem rc_data_str (I : Inv X pins σ H s) {A : Around} (hu : A.units < cLine) {d : PyData} {v : V} {u : Value} (h : Dq X.K D H d v) (r : RelV v u) (z : Str) (t : Tok) : RcAt A s u (.str z t) (isS z d) := by
  cases d with
  | none => unfold Dq at h; subst h; cases r; exact RcAt.none_str z t
  | bool b => unfold Dq at h; subst h; cases r; exact RcAt.bool_str b z t
  | int i => unfold Dq at h; subst h; obtain ⟨t', rfl⟩ := r; exact RcAt.int_str i t' z t
  | str x =>
    unfold Dq at h; subst h; obtain ⟨t', rfl⟩ := r
    have e : isS z (.str x) = (x == z) := by
      show decide (x = z) = _
      rw [Bool.beq_eq_decide_eq]
    rw [e]
    exact RcAt.str_str x t' z t
  | list ds =>
    unfold Dq at h
    obtain ⟨a, xs, rfl, _, ha, _⟩ := h
    cases r
    obtain ⟨_, its, k, rv, ho⟩ := (show ObjOk X.prog X.w H s.heap a (.lst xs) from I.hok a _ ha)
    exact RcAt.list_str z t ⟨_, ho, rfl, k, rfl⟩ hu
  | tuple ds =>
    unfold Dq at h
    obtain ⟨a, xs, rfl, ha, _⟩ := h
    cases r
    obtain ⟨its, rv, ho, _⟩ := I.tuple ha
    exact RcAt.tuple_str z t ho hu
  | dict kvs =>
    unfold Dq at h
    obtain ⟨a, rfl, _, h⟩ := h
    cases r
    rcases h with ⟨ys, ha, _⟩ | ⟨ys, _, ha, _⟩
    · obtain ⟨_, _, vs, rv, o, es, ep, ho, hc, hd, _⟩ := (show ObjOk X.prog X.w H s.heap a (.dK ys) from I.hok a _ ha)
      exact rc_dict_str z t ho hc.1 hd hu
    · obtain ⟨_, _, vs, rv, o, es, ep, ho, hc, hd, _⟩ := (show ObjOk X.prog X.w H s.heap a (.dT ys) from I.hok a _ ha)
      exact rc_dict_str z t ho hc.1 hd hu
theorem eqAt_str_data (I : Inv X pins σ H s) {A : Around} (hu : A.units < cLine) {d : PyData} {v : V} {u : Value} (h : Dq X.K D H d v) (r : RelV v u) (z : Str) (t : Tok) : EqAt A s (.str z t) u (isS z d) := by
  cases d with
  | none => unfold Dq at h; subst h; cases r; exact EqAt.str_none z t
  | bool b => unfold Dq at h; subst h; cases r; exact EqAt.str_bool z t b
  | int i => unfold Dq at h; subst h; obtain ⟨t', rfl⟩ := r; exact EqAt.str_int z t i t'
  | str x =>
    unfold Dq at h; subst h; obtain ⟨t', rfl⟩ := r
    have e : isS z (.str x) = (z == x) := by
      show decide (x = z) = _
      rw [Bool.beq_eq_decide_eq]
      exact decide_eq_decide.mpr ⟨fun e => e.symm, fun e => e.symm⟩
    rw [e]
    exact EqAt.str_str z t x t'
  | list ds =>
    unfold Dq at h
    obtain ⟨a, xs, rfl, _, ha, _⟩ := h
    cases r
    obtain ⟨_, its, k, rv, ho⟩ := (show ObjOk X.prog X.w H s.heap a (.lst xs) from I.hok a _ ha)
    exact EqAt.str_list z t ⟨_, ho, rfl, k, rfl⟩ hu
  | tuple ds =>
    unfold Dq at h
    obtain ⟨a, xs, rfl, ha, _⟩ := h
    cases r
    obtain ⟨its, rv, ho, _⟩ := I.tuple ha
    exact EqAt.str_tuple z t ho hu
  | dict kvs =>
    unfold Dq at h
    obtain ⟨a, rfl, _, h⟩ := h
    cases r
    rcases h with ⟨ys, ha, _⟩ | ⟨ys, _, ha, _⟩
    · obtain ⟨_, _, vs, rv, o, es, ep, ho, hc, hd, _⟩ := (show ObjOk X.prog X.w H s.heap a (.dK ys) from I.hok a _ ha)
      exact eqAt_of_rc (rc_str_dict z t ho hc.1 hd hu)
    · obtain ⟨_, _, vs, rv, o, es, ep, ho, hc, hd, _⟩ := (show ObjOk X.prog X.w H s.heap a (.dT ys) from I.hok a _ ha)
      exact eqAt_of_rc (rc_str_dict z t ho hc.1 hd hu)
end
/-- data == a text | data in, not in a tuple of texts -/
def rEqS (K : PySem.W.Frag) : R2 := fun x y H Q => ∃ (D : Ban) (d : PyData) (z : Str), Dq K D H d x ∧ y = .str z ∧ Q (.bl (isS z d)) H
def anyS (zs : List Str) (d : PyData) : Bool := zs.any fun z => isS z d
def rInS (K : PySem.W.Frag) (neg : Bool) : R2 := fun x y H Q => ∃ (D : Ban) (d : PyData) (p : Addr) (zs : List Str), Dq K D H d x ∧ y = .ref p ∧ SqT K H p (zs.map V.str) ∧ Q (.bl (if neg then !anyS zs d else anyS zs d)) H
section
variable {X : Cx}
theorem op_eqS (hu : X.A.units + 1 < cLine) : OpR X (compareOp .Eq) (rEqS X.K) := by
  intro pins s σ H x y v u Q I rx ry h
  obtain ⟨D, d, z, hd, rfl, q⟩ := h
  obtain ⟨t, rfl⟩ := ry
  exact rc_data_str I (by omega) hd rx z t X.prog X.w _ _ ⟨.bl _, H, I, rfl, q⟩
/-- the items' equalities, by what the values are -/
def eqOf (d : PyData) : Value → Bool
  | .str z _ => isS z d
  | _ => false
theorem any_eqOf (d : PyData) : ∀ {zs : List Str} {us : List Value}, Vals (zs.map V.str) us → us.any (eqOf d) = anyS zs d
  | [], _, h => by cases h; rfl
  | z :: zs, _, h => by
    cases h with
    | cons r t =>
      obtain ⟨k, rfl⟩ := r
      show (isS z d || _) = (isS z d || _)
      rw [any_eqOf d t]
      rfl
theorem mem_eqOf {pins : List (Addr × Obj)} {σ : L2.St} {H : Hp} {s : Shared} {D : Ban} (I : Inv X pins σ H s) {A : Around} (hu : A.units < cLine) {d : PyData} {v : V} {u : Value} (h : Dq X.K D H d v) (r : RelV v u) :
    ∀ {zs : List Str} {us : List Value}, Vals (zs.map V.str) us → ∀ y ∈ us, EqAt A s y u (eqOf d y)
  | [], _, h', y, hy => by cases h'; cases hy
  | z :: zs, _, h', y, hy => by
    cases h' with
    | cons r' t =>
      rcases List.mem_cons.mp hy with e | e
      · obtain ⟨k, e2⟩ := r'
        rw [e, e2]
        exact eqAt_str_data I hu h r z k
      · exact mem_eqOf I hu h r t y e
theorem op_inS (hu : X.A.units + 1 < cLine) : OpR X (compareOp .In) (rInS X.K false) := by
  intro pins s σ H x y v u Q I rx ry h
  obtain ⟨D, d, p, zs, hd, rfl, hq, q⟩ := h
  cases ry
  obtain ⟨its, r, pl, hz⟩ := I.tuple hq
  refine SeqAt.in_tupleAt (eqOf d) pl (fun w hw => mem_eqOf I (A := X.A.in1) hu hd rx r w (by simpa using hw)) ⟨.bl _, H, I, rfl, ?_⟩
  rw [show its.toArray.any (eqOf d) = its.any (eqOf d) by simp, any_eqOf d r]
  exact q
theorem op_notInS (hu : X.A.units + 1 < cLine) : OpR X (compareOp .NotIn) (rInS X.K true) := by
  intro pins s σ H x y v u Q I rx ry h
  obtain ⟨D, d, p, zs, hd, rfl, hq, q⟩ := h
  cases ry
  obtain ⟨its, r, pl, hz⟩ := I.tuple hq
  refine SeqAt.notIn_tupleAt (eqOf d) pl (fun w hw => mem_eqOf I (A := X.A.in1) hu hd rx r w (by simpa using hw)) ⟨.bl _, H, I, rfl, ?_⟩
  rw [show its.toArray.any (eqOf d) = its.any (eqOf d) by simp, any_eqOf d r]
  exact q
end
end Fi
/-! The core language and what it does, over data. -/
namespace Fi
open PySem PySem.Spec PyProof.Rows L2
structure Xn where
  cls : Str
  fld : Option (Str × PyData)
inductive Rs (α : Type) where
  | ok (a : α) (e : Env)
  | ex (x : Xn) (e : Env)
  | no
def Rs.bd {α β : Type} (r : Rs α) (f : α → Env → Rs β) : Rs β := match r with
  | .ok a e => f a e
  | .ex x e => .ex x e
  | .no => .no
/-- without errors -/
def Rs.sure {α : Type} (r : Rs α) : Rs α := match r with
  | .ok a e => .ok a e
  | _ => .no
def lift {α : Type} (o : Option α) (e : Env) : Rs α := match o with
  | some a => .ok a e
  | none => .no
/-- what a call gives: the result, what is left of the arguments -/
inductive Cr where
  | ok (u : U) (os : List U)
  | ex (x : Xn) (os : List U)
  | no
inductive Bop where
  | add | sub | mul | mod | fdiv | pow
  deriving DecidableEq
inductive Cop where
  | eq | ne | lt | le | gt | ge | isn | nisn | in_ | nin
  deriving DecidableEq
/-- built-ins, by their values -/
inductive Bi where
  | len | tuple | list | all | any | int | str | max2 | min2 | max | min | sum | sorted | lenset | sortset | dict | repr
  deriving DecidableEq
/-- methods of values -/
inductive Me where
  | join | get | index | upper | split | replace | startswith
  deriving DecidableEq
/-- methods that change a list -/
inductive Mu where
  | append | pop | popAt | insert | extend
  deriving DecidableEq
inductive CT where
  | name (i : Nat)
  | tup (ts : List CT)
mutual
inductive CE where
  | var (i : Nat)
  | pv (i : Nat)
  | mv (i : Nat)
  | soft (i : Nat)
  /-- moved into a call when all arguments are there -/
  | lt (i : Nat)
  | nve
  | cst (x : PyData)
  | fn (k : Nat)
  | bin (op : Bop) (a b : CE)
  | cmp (op : Cop) (a b : CE)
  | chn (op op' : Cop) (a b c : CE)
  | cmpP (neg : Bool) (i : Nat) (path : CEs) (b : CE)
  | neg (a : CE)
  | nt (a : CE)
  | an (a b : CE)
  | orr (a b : CE)
  | ife (t a b : CE)
  | tup (es : CEs)
  | lst (es : CEs)
  | dic (ps : CEs)
  | sub (a i : CE)
  | slc (a : CE) (lo hi : CO)
  | rev (a : CE)
  | isi (a : CE) (ts : List String)
  | bi (f : Bi) (es : CEs)
  | me (m : Me) (a : CE) (es : CEs)
  | mu (m : Mu) (i : Nat) (path es : CEs)
  | call (k : Nat) (es : CEs)
  | callk (k : Nat) (perm : List Nat) (es : CEs)
  | calv (i : Nat) (es : CEs)
  | lc (e : CE) (t : CT) (it : CI) (ifs : CEs) (vs : List Nat)
  | ixc (kvs : List (Str × PyData)) (i : CE)
  | inc (neg : Bool) (kvs : List (Str × PyData)) (a : CE)
inductive CEs where
  | nil
  | cons (e : CE) (es : CEs)
inductive CO where
  | none
  | some (e : CE)
inductive CI where
  | seq (e : CE)
  | str (e : CE)
  | rng (es : CEs)
  | enum (e : CE)
  | zip (a b : CE)
end
/-! ### values -/
mutual
def flats : List O → Option (List PyData)
  | [] => some []
  | x :: r => match flat1 x, flats r with
    | some y, some ys => some (y :: ys)
    | _, _ => none
def flat1 : O → Option PyData
  | .leaf x => some x
  | _ => none
end
def ownAt (e : Env) (i : Nat) : Option O := match e[i]? with
  | some (some (.o x)) => some x
  | _ => none
/-- as data, looked at -/
def dv (e : Env) : U → Option PyData
  | .d x => some x
  | .o x => some (frz x)
  | .b i => (ownAt e i).map frz
  | _ => none
/-- a list's items, as data -/
def lv (e : Env) : U → Option (List PyData)
  | .d (.list xs) => some xs
  | .o (.lst xs) => some (frzL xs)
  | .b i => match ownAt e i with
    | some (.lst xs) => flats xs
    | _ => none
  | _ => none
/-- a tuple's or a list's -/
def sv (e : Env) : U → Option (List PyData)
  | .d (.tuple xs) => some xs
  | u => lv e u
/-- as data for good -/
def U.fz : U → Option U
  | .d x => some (.d x)
  | .o x => some (.d (frz x))
  | .f k => some (.f k)
  | _ => none
def U.dat : U → Option PyData
  | .d x => some x
  | .o x => some (frz x)
  | _ => none
def datL : List U → Option (List PyData)
  | [] => some []
  | u :: us => match u.dat, datL us with
    | some x, some xs => some (x :: xs)
    | _, _ => none
def chL : List U → Option (List O)
  | [] => some []
  | .d x :: us => (chL us).map (.leaf x :: ·)
  | .o x :: us => (chL us).map (x :: ·)
  | _ :: _ => none
def most : Nat := 100000
abbrev nl (xs : List PyData) : U := .o (.lst (xs.map .leaf))
/-! ### operations -/
def bMul (i j : Int) : Bool := (decide (-(2 ^ 64) < i) && decide (i < 2 ^ 64)) || (decide (-(2 ^ 64) < j) && decide (j < 2 ^ 64))
def repL {α : Type} (n : Nat) (xs : List α) : List α := (List.replicate n xs).flatten
def addU (e : Env) : U → U → Option U
  | .d (.int i), .d (.int j) => some (.d (.int (i + j)))
  | .d (.str a), .d (.str b) => if a.length + b.length ≤ most then some (.d (.str (a ++ b))) else none
  | .d (.tuple a), .d (.tuple b) => if a.length + b.length ≤ most then some (.d (.tuple (a ++ b))) else none
  | x, y => match lv e x, lv e y with
    | some a, some b => if a.length + b.length ≤ most then some (nl (a ++ b)) else none
    | _, _ => none
def repS (n : Nat) (s : Str) : Str := ⟨(repL n s.cps.toList).toArray⟩
def mulU (e : Env) : U → U → Option U
  | .d (.int i), .d (.int j) => if bMul i j = true then some (.d (.int (i * j))) else none
  | .d (.str a), .d (.int j) => if a.length * j.toNat ≤ most ∧ j < 2 ^ 62 ∧ -(2 ^ 62) < j then some (.d (.str (repS j.toNat a))) else none
  | .d (.tuple a), .d (.int j) => if 2 ≤ j ∧ j ≤ 1000 ∧ a.length ≤ 1000 then some (.d (.tuple (repL j.toNat a))) else none
  | x, .d (.int j) => match lv e x with
    | some a => if a.length * j.toNat ≤ most ∧ j < 2 ^ 62 ∧ -(2 ^ 62) < j then some (nl (repL j.toNat a)) else none
    | none => none
  | _, _ => none
def iOp (f : Int → Int → Option Int) : U → U → Option U
  | .d (.int i), .d (.int j) => (f i j).map fun k => .d (.int k)
  | _, _ => none
def binU (op : Bop) (e : Env) (x y : U) : Option U := match op with
  | .add => addU e x y
  | .mul => mulU e x y
  | .sub => iOp (fun i j => some (i - j)) x y
  | .mod => iOp (fun i j => if 0 < j then some (i % j) else none) x y
  | .fdiv => iOp (fun i j => if 0 < j ∧ j < 1073741824 then some (i / j) else none) x y
  | .pow => iOp (fun i j => if 0 ≤ j ∧ j ≤ 1000000 ∧ i.natAbs < 2 ^ 64 then some (i ^ j.toNat) else none) x y
def okD (a : PyData) : Bool := PyData.canLay0 a && decide (PyData.depth a ≤ 64)
def eqF : PyData → PyData → Option Bool
  | .str x, .str y => some (decide (x = y))
  | .list a, .list [] => some a.isEmpty
  | .tuple a, .tuple [] => some a.isEmpty
  | d, .str z => some (isS z d)
  | a, b => if (okD a && PyData.canLay0 b) = true then some (PyData.eqv a b) else none
def neF : PyData → PyData → Option Bool
  | .str x, .str y => some (!decide (x = y))
  | .list a, .list [] => some (!a.isEmpty)
  | .tuple a, .tuple [] => some (!a.isEmpty)
  | a, b => if (okD a && PyData.canLay0 b) = true then some (!PyData.eqv a b) else none
def lookC : List (Str × PyData) → Str → Option PyData
  | [], _ => none
  | p :: r, x => if p.1 = x then some p.2 else lookC r x
def isNon : PyData → Bool
  | .none => true
  | _ => false
def allS : List PyData → Option (List Str)
  | [] => some []
  | .str z :: r => (allS r).map (z :: ·)
  | _ :: _ => none
/-- whether data stands in a tuple, a list -/
def inF (tup : Bool) (x : PyData) (ys : List PyData) : Option Bool := match allS ys with
  | some zs => if tup = true then some (anyS zs x) else (match x with
    | .str w => some (zs.any fun z => decide (w = z))
    | _ => if (PyData.canLayAll0 ys && okD x) = true then some (ys.any fun y => PyData.eqv y x) else none)
  | none => if (PyData.canLayAll0 ys && okD x) = true then some (ys.any fun y => PyData.eqv y x) else none
def keyOf : PyData → Option Key
  | .int i => some (.inl i)
  | .str x => some (.inr x)
  | _ => none
def keysOf : List PyData → Option (List Key)
  | [] => some []
  | x :: xs => match keyOf x, keysOf xs with
    | some k, some ks => some (k :: ks)
    | _, _ => none
def keyT : PyData → Option (List Key)
  | .tuple xs => keysOf xs
  | _ => none
/-- an entry's value in a dict -/
def lookD (k : PyData) : List (PyData × PyData) → Option PyData
  | [] => none
  | (j, v) :: r => if (match keyOf j, keyOf k with
    | some a, some b => decide (a = b)
    | _, _ => match keyT j, keyT k with
      | some a, some b => decide (a = b)
      | _, _ => false) = true then some v else lookD k r
def isK (k : PyData) : Bool := (keyOf k).isSome || (keyT k).isSome
def allK : List (PyData × PyData) → Bool
  | [] => true
  | p :: r => (keyOf p.1).isSome && allK r
/-- a dict with keys all of which are ints and texts -/
def dctv (e : Env) : U → Option (List (PyData × PyData))
  | .d (.dict kvs) => if allK kvs = true then some kvs else none
  | .b i => match ownAt e i with
    | some (.dic kvs) => match flats (kvs.map (·.2)) with
      | some _ => some (frzK kvs)
      | none => none
    | _ => none
  | .o (.dic kvs) => some (frzK kvs)
  | _ => none
def inU (e : Env) (neg : Bool) : U → U → Option U
  | .d (.str w), .d (.str z) => if w.cps.size = 1 then some (.d (.bool (neg != decide (w.cps[0]?.getD 0 ∈ z.cps.toList)))) else none
  | .d x, y => match dctv e y with
    | some kvs => if (keyOf x).isSome = true then some (.d (.bool (neg != (lookD x kvs).isSome))) else none
    | none => match y with
      | .d (.tuple ys) => (inF true x ys).map fun r => .d (.bool (neg != r))
      | y => match lv e y with
        | some ys => (inF false x ys).map fun r => .d (.bool (neg != r))
        | none => none
  | _, _ => none
def cmpI (f : Int → Int → Bool) : U → U → Option U
  | .d (.int i), .d (.int j) => some (.d (.bool (f i j)))
  | _, _ => none
def cmpD (e : Env) (f : PyData → PyData → Option Bool) (x y : U) : Option U := match dv e x, dv e y with
  | some a, some b => (f a b).map fun r => .d (.bool r)
  | _, _ => none
def cmpU (op : Cop) (e : Env) (x y : U) : Option U := match op with
  | .eq => cmpD e eqF x y
  | .ne => cmpD e neF x y
  | .lt => cmpI (fun i j => decide (i < j)) x y
  | .le => cmpI (fun i j => decide (i ≤ j)) x y
  | .gt => cmpI (fun i j => decide (j < i)) x y
  | .ge => cmpI (fun i j => decide (j ≤ i)) x y
  | .isn => (match y with | .d .none => (dv e x).map fun a => .d (.bool (isNon a)) | _ => none)
  | .nisn => (match y with | .d .none => (dv e x).map fun a => .d (.bool (!isNon a)) | _ => none)
  | .in_ => inU e false x y
  | .nin => inU e true x y
/-! ### own trees by their paths -/
def seqIx (n : Nat) (i : Int) : Option Nat := ixN n i
def putAt {α : Type} (xs : List α) (i : Nat) (x : α) : List α := xs.set i x
def lookO (k : Key) : List (Key × O) → Option O
  | [] => none
  | (j, v) :: r => if j = k then some v else lookO k r
def setO (k : Key) (x : O) : List (Key × O) → List (Key × O)
  | [] => [(k, x)]
  | (j, v) :: r => if j = k then (k, x) :: r else (j, v) :: setO k x r
def lookOT (k : List Key) : List (List Key × O) → Option O
  | [] => none
  | (j, v) :: r => if j = k then some v else lookOT k r
def setOT (k : List Key) (x : O) : List (List Key × O) → List (List Key × O)
  | [] => [(k, x)]
  | (j, v) :: r => if j = k then (k, x) :: r else (j, v) :: setOT k x r
def O.kid (x : O) (k : PyData) : Option O := match x, k with
  | .lst xs, .int i => atI xs i
  | .dic kvs, k => (keyOf k).bind fun k => lookO k kvs
  | _, _ => none
def O.put (x : O) (k : PyData) (y : O) : Option O := match x, k with
  | .lst xs, .int i => (ixN xs.length i).map fun j => .lst (xs.set j y)
  | .dic kvs, k => (keyOf k).bind fun k => if kvs.length < most then some (.dic (setO k y kvs)) else none
  | _, _ => none
def subU0 (e : Env) : U → U → Option U
  | x, .d k => match dctv e x with
    | some kvs => if (keyOf k).isSome = true then (lookD k kvs).map .d else none
    | none => match k with
      | .int i => match sv e x with
        | some xs => (atI xs i).map .d
        | none => match x with
          | .d (.str s) => if s.length ≤ most then (atI s.cps.toList i).map fun c => .d (.str ⟨#[c]⟩) else none
          | _ => none
      | _ => none
  | _, _ => none
/-- a child of an own tree that a slot holds -/
def kidU (e : Env) : U → U → Option U
  | .b i, .d k => match (ownAt e i).bind fun x => x.kid k with
    | some (.leaf d) => some (.d d)
    | _ => none
  | _, _ => none
def subU (e : Env) (x y : U) : Option U := match kidU e x y with
  | some z => some z
  | none => subU0 e x y
def cutD {α : Type} (xs : List α) (lo hi : Option Int) : List α := (xs.drop (HT.sIx xs.length 0 lo)).take (HT.sIx xs.length xs.length hi - HT.sIx xs.length 0 lo)
def slcU (e : Env) (x : U) (lo hi : Option Int) : Option U := match x with
  | .s xs => some (nl (cutD (xs.map .int) lo hi))
  | .d (.tuple xs) => some (.d (.tuple (cutD xs lo hi)))
  | .d (.str s) => if s.length ≤ most then some (.d (.str (cutS s lo hi))) else none
  | x => (lv e x).map fun xs => nl (cutD xs lo hi)
def revU (e : Env) : U → Option U
  | .d (.tuple xs) => some (.d (.tuple xs.reverse))
  | x => (lv e x).map fun xs => nl xs.reverse
def isT : String → PyData → Option Bool
  | "int", .int _ => some true
  | "int", .bool _ => some true
  | "int", _ => some false
  | "bool", .bool _ => some true
  | "bool", _ => some false
  | "str", .str _ => some true
  | "str", _ => some false
  | "tuple", .tuple _ => some true
  | "tuple", _ => some false
  | "list", .list _ => some true
  | "list", _ => some false
  | "dict", .dict _ => some true
  | "dict", _ => some false
  | _, _ => none
def isiU (e : Env) (x : U) (T : String) : Option U := match dv e x with
  | some a => (isT T a).map fun b => .d (.bool b)
  | none => none
def allB : List PyData → Option (List Bool)
  | [] => some []
  | .bool b :: r => (allB r).map (b :: ·)
  | _ :: _ => none
def allI : List PyData → Option (List Int)
  | [] => some []
  | .int b :: r => (allI r).map (b :: ·)
  | _ :: _ => none
def lenU (e : Env) (u : U) : Option Int := match sv e u with
  | some xs => some xs.length
  | none => match u with
    | .d (.str s) => if s.length ≤ most then some s.length else none
    | _ => none
def dupB : List Int → List Int
  | [] => []
  | x :: r => if x ∈ dupB r then dupB r else x :: dupB r
def bi1 (f : Bi) (e : Env) (u : U) : Option U := match f with
  | .len => (lenU e u).map fun n => .d (.int n)
  | .tuple => (match u with
    | .d (.tuple xs) => some (.d (.tuple xs))
    | u => (lv e u).map fun xs => .d (.tuple xs))
  | .list => (sv e u).map nl
  | .all => ((lv e u).bind allB).map fun bs => .d (.bool (bs.all id))
  | .any => ((lv e u).bind allB).map fun bs => .d (.bool (bs.any id))
  | .int => (match u with
    | .d (.int i) => some (.d (.int i))
    | .d (.bool b) => some (.d (.int (if b = true then 1 else 0)))
    | _ => none)
  | .str => (match u with
    | .d (.int i) => if i.natAbs.log2 < 1920 then some (.d (.str (toString i))) else none
    | .d (.str a) => some (.d (.str a))
    | _ => none)
  | .sum => ((lv e u).bind allI).map fun is => .d (.int is.sum)
  | .lenset => (match u with
    | .d (.tuple xs) => (allI xs).bind fun is => if is.length < 4000 then some (.d (.int (dupB is).length)) else none
    | _ => none)
  | .repr => (match dv e u with
    | some d => if (d.showable && decide (d.depth ≤ 1000) && decide (d.shown.length ≤ 10000000)) = true then some (.d (.str d.shown)) else none
    | none => none)
  | _ => none
def bi2 (f : Bi) (x y : U) : Option U := match x, y with
  | .d (.int i), .d (.int j) => (match f with
    | .max2 => some (.d (.int (if j > i then j else i)))
    | .min2 => some (.d (.int (if j < i then j else i)))
    | _ => none)
  | _, _ => none
def biU (f : Bi) (e : Env) (us : List U) : Option U := match us with
  | [u] => bi1 f e u
  | [x, y] => bi2 f x y
  | _ => none
/-- what a method's object is -/
def meTy (m : Me) (e : Env) (x : U) : Bool := match m, x with
  | .get, x => (dctv e x).isSome
  | .index, _ => false
  | _, .d (.str _) => true
  | _, _ => false
def joinLen (sep : Str) (ys : List Str) : Nat := (ys.map (·.length)).sum + ys.length * sep.length
def strA : U → Option Str
  | .d (.str a) => some a
  | _ => none
def getU (e : Env) (x : U) : List U → Option U
  | [.d k] => (dctv e x).bind fun kvs => if (keyOf k).isSome = true then some (.d ((lookD k kvs).getD .none)) else none
  | [.d k, .d z] => (dctv e x).bind fun kvs => if (keyOf k).isSome = true then some (.d ((lookD k kvs).getD z)) else none
  | _ => none
def joinU (e : Env) (x : U) : List U → Option U
  | [u] => (strA x).bind fun a => ((sv e u).bind allS).bind fun ys => if joinLen a ys ≤ most then some (.d (.str (Txt.join a ys))) else none
  | _ => none
def upperU (x : U) : List U → Option U
  | [] => (strA x).bind fun a => if a.length ≤ most then some (.d (.str (Txt.upper a))) else none
  | _ => none
def splitU (x : U) : List U → Option U
  | [u] => (strA x).bind fun a => (strA u).bind fun b => if a.length ≤ most ∧ (b.length == 0) = false then some (nl ((Txt.split a b).map .str)) else none
  | _ => none
def startsU (x : U) : List U → Option U
  | [u] => (strA x).bind fun a => (strA u).bind fun b => some (.d (.bool (Txt.startswith a b)))
  | _ => none
def meU (m : Me) (e : Env) (x : U) (us : List U) : Option U := match m with
  | .get => getU e x us
  | .join => joinU e x us
  | .upper => upperU x us
  | .split => splitU x us
  | .startswith => startsU x us
  | _ => none
def O.at : O → List PyData → Option O
  | x, [] => some x
  | x, k :: ks => (x.kid k).bind fun y => y.at ks
def O.upd (f : O → Option (O × U)) : O → List PyData → Option (O × U)
  | x, [] => f x
  | x, k :: ks => (x.kid k).bind fun y => (O.upd f y ks).bind fun (z, u) => (x.put k z).map fun w => (w, u)
def U.kido : U → Option O
  | .d x => some (.leaf x)
  | .o x => some x
  | _ => none
def O.toU : O → U
  | .leaf x => .d x
  | x => .o x
def lv0 : U → Option (List PyData)
  | .d (.list xs) => some xs
  | .o (.lst xs) => some (frzL xs)
  | _ => none
def appU : List U → O → Option (O × U)
  | [u], .lst xs => u.kido.bind fun y => if xs.length < most then some (.lst (xs ++ [y]), .d .none) else none
  | _, _ => none
def popU : List U → O → Option (O × U)
  | [], .lst xs => (xs[xs.length - 1]?).map fun y => (.lst (xs.eraseIdx (xs.length - 1)), y.toU)
  | _, _ => none
def popAtU : List U → O → Option (O × U)
  | [.d (.int i)], .lst xs => if xs.length ≤ most then (ixN xs.length i).bind fun j => (xs[j]?).map fun y => (.lst (xs.eraseIdx j), y.toU) else none
  | _, _ => none
def insU : List U → O → Option (O × U)
  | [.d (.int i), u], .lst xs => u.kido.bind fun y => if xs.length < most ∧ 0 ≤ i ∧ i ≤ xs.length then some (.lst (xs.take i.toNat ++ y :: xs.drop i.toNat), .d .none) else none
  | _, _ => none
def extU : List U → O → Option (O × U)
  | [u], .lst xs => (lv0 u).bind fun ys => if xs.length + ys.length ≤ most then some (.lst (xs ++ ys.map .leaf), .d .none) else none
  | _, _ => none
def muO (m : Mu) (us : List U) (x : O) : Option (O × U) := match m with
  | .append => appU us x
  | .pop => popU us x
  | .popAt => popAtU us x
  | .insert => insU us x
  | .extend => extU us x
/-- the slot i holds an own tree: it is changed at a path -/
def updAt (f : O → Option (O × U)) (e : Env) (i : Nat) (ks : List PyData) : Rs U := match ownAt e i with
  | some x => match x.upd f ks with
    | some (y, u) => .ok u (e.set i (some (.o y)))
    | none => .no
  | none => .no
def dicU : List U → Option (List (Key × O))
  | [] => some []
  | .d k :: v :: r => match keyOf k, v.kido, dicU r with
    | some k, some x, some kvs => some ((k, x) :: kvs)
    | _, _, _ => none
  | _ => none
def noDup : List Key → Bool
  | [] => true
  | k :: r => !(r.any fun j => decide (j = k)) && noDup r
/-! ### the interpreter of expressions -/
mutual
def qt : CE → Bool
  | .bin _ a b => qt a && qt b
  | .cmp _ a b => qt a && qt b
  | .chn _ _ a b c => qt a && qt b && qt c
  | .neg a => qt a
  | .nt a => qt a
  | .an a b => qt a && qt b
  | .orr a b => qt a && qt b
  | .ife t a b => qt t && qt a && qt b
  | .tup es => qts es
  | .lst es => qts es
  | .sub a i => qt a && qt i
  | .isi a _ => qt a
  | .bi _ es => qts es
  | .var _ => true
  | .pv _ => true
  | .mv _ => true
  | .lt _ => true
  | .soft _ => true
  | .cst _ => true
  | .fn _ => true
  | _ => false
def qts : CEs → Bool
  | .nil => true
  | .cons e es => qt e && qts es
end
def zipD (xs ys : List PyData) : List PyData := (xs.zip ys).map fun p => .tuple [p.1, p.2]
def rngL (lo : Int) (n : Nat) : List PyData := (List.range n).map fun k => .int (lo + (k : Nat))
def setT : CT → PyData → Env → Option Env
  | .name i, x, e => some (e.set i (some (.d x)))
  | .tup ts, .tuple xs, e => setTs ts xs e
  | .tup _, _, _ => none
where setTs : List CT → List PyData → Env → Option Env
  | [], [], e => some e
  | t :: ts, x :: xs, e => (setT t x e).bind fun e1 => setTs ts xs e1
  | _, _, _ => none
def wipeE (e : Env) : List Nat → Env
  | [] => e
  | v :: vs => (wipeE e vs).set v none
/-- what moved out comes back -/
def backV (c : CE) (u : U) (e : Env) : Env := match c with
  | .lt i => (match e[i]? with
    | some none => (match u with
      | .gone => e
      | u => e.set i (some u))
    | _ => e)
  | .mv i => (match e[i]? with
    | some none => (match u with
      | .gone => e
      | u => e.set i (some u))
    | _ => e)
  | _ => e
def back : CEs → List U → Env → Env
  | .cons c es, u :: us, e => back es us (backV c u e)
  | _, _, e => e
def isB : U → Bool
  | .b _ => true
  | _ => false
def nbs (us : List U) : Bool := us.all fun u => !isB u
/-- a call's arguments are no looks -/
def callF (F : Nat → List U → Cr) (k : Nat) (us : List U) : Cr := if nbs us = true then F k us else .no
/-- what is moved is taken from its slot -/
def grab : CEs → List U → Env → Option (List U × Env)
  | .cons (.lt i) es, .b j :: us, e => if i = j then (match e[i]? with
    | some (some (.o x)) => (grab es us (e.set i none)).map fun p => (.o x :: p.1, p.2)
    | _ => none) else none
  | .cons _ es, u :: us, e => (grab es us e).map fun p => (u :: p.1, p.2)
  | _, us, e => some (us, e)
def CEs.isNil : CEs → Bool
  | .nil => true
  | _ => false
def catE : CEs → CEs → CEs
  | .nil, b => b
  | .cons c a, b => .cons c (catE a b)
def big : Int := 1000000000
/-- a comprehension's turns -/
def lcL (t : PyData → Env → Option Env) (p : Env → Rs Bool) (x : Env → Rs U) (vs : List Nat) : List PyData → List PyData → Env → Rs U
  | [], acc, e => .ok (nl acc) (wipeE e vs)
  | d :: ds, acc, e => match t d (wipeE e vs) with
    | none => .no
    | some e1 => match p e1 with
      | .ok true e2 => (match x e2 with
        | .ok u e3 => (match u.dat with
          | some y => lcL t p x vs ds (acc ++ [y]) e3
          | none => .no)
        | _ => .no)
      | .ok false e2 => lcL t p x vs ds acc e2
      | _ => .no
mutual
def ev (F : Nat → List U → Cr) : CE → Env → Rs U
  | .var i, e => match e[i]? with
    | some (some (.d x)) => .ok (.d x) e
    | some (some (.o x)) => .ok (.d (frz x)) (e.set i (some (.d (frz x))))
    | some (some (.f k)) => .ok (.f k) e
    | some (some (.s xs)) => .ok (.s xs) e
    | _ => .no
  | .pv i, e => match e[i]? with
    | some (some (.d x)) => .ok (.d x) e
    | some (some (.o _)) => .ok (.b i) e
    | some (some (.f k)) => .ok (.f k) e
    | some (some (.s xs)) => .ok (.s xs) e
    | _ => .no
  | .mv i, e => match e[i]? with
    | some (some (.d x)) => .ok (.d x) e
    | some (some (.o x)) => .ok (.o x) (e.set i none)
    | some (some (.f k)) => .ok (.f k) e
    | some (some (.s xs)) => .ok (.s xs) e
    | _ => .no
  | .lt i, e => match e[i]? with
    | some (some (.d x)) => .ok (.d x) e
    | some (some (.o _)) => .ok (.b i) e
    | some (some (.f k)) => .ok (.f k) e
    | some (some (.s xs)) => .ok (.s xs) e
    | _ => .no
  | .soft i, e => match e[i]? with
    | some (some (.d x)) => .ok (.d x) e
    | some (some (.o x)) => (match x with
      | .lst xs => (match flats xs with
        | some _ => .ok (.b i) e
        | none => .ok (.d (frz x)) (e.set i (some (.d (frz x)))))
      | _ => .ok (.d (frz x)) (e.set i (some (.d (frz x)))))
    | some (some (.f k)) => .ok (.f k) e
    | some (some (.s xs)) => .ok (.s xs) e
    | _ => .no
  | .nve, _ => .no
  | .cst x, e => .ok (.d x) e
  | .fn k, e => .ok (.f k) e
  | .bin op a b, e => (ev F a e).bd fun x e1 => (ev F b e1).bd fun y e2 => lift (binU op e2 x y) e2
  | .cmp op a b, e => (ev F a e).bd fun x e1 => (ev F b e1).bd fun y e2 => lift (cmpU op e2 x y) e2
  | .cmpP neg i path b, e => match ownAt e i with
    | some x => (evp F path e x).bd fun p e1 => (ev F b e1).bd fun y e2 => lift ((dv e2 y).bind fun d => ((if neg = true then neF (frz p.2) d else eqF (frz p.2) d)).map fun r => .d (.bool r)) e2
    | none => .no
  | .chn op op' a b c, e => (ev F a e).bd fun x e1 => (ev F b e1).bd fun y e2 => (lift (cmpU op e2 x y) e2).bd fun z e3 => match z with
    | .d (.bool true) => (ev F c e3).bd fun w e4 => lift (cmpU op' e4 y w) e4
    | .d (.bool false) => .ok (.d (.bool false)) e3
    | _ => .no
  | .neg a, e => (ev F a e).bd fun x e1 => match x with
    | .d (.int i) => .ok (.d (.int (-i))) e1
    | _ => .no
  | .nt a, e => (ev F a e).bd fun x e1 => match x with
    | .d (.bool b) => .ok (.d (.bool (!b))) e1
    | _ => .no
  | .an a b, e => (ev F a e).bd fun x e1 => match x with
    | .d (.bool true) => ev F b e1
    | .d (.bool false) => .ok (.d (.bool false)) e1
    | _ => .no
  | .orr a b, e => (ev F a e).bd fun x e1 => match x with
    | .d (.bool true) => .ok (.d (.bool true)) e1
    | .d (.bool false) => ev F b e1
    | _ => .no
  | .ife t a b, e => (ev F t e).bd fun x e1 => match x with
    | .d (.bool true) => ev F a e1
    | .d (.bool false) => ev F b e1
    | _ => .no
  | .tup es, e => (evs F es e).bd fun us e1 => lift ((datL us).bind fun xs => if xs.length ≤ most then some (.d (.tuple xs)) else none) e1
  | .lst es, e => (evs F es e).bd fun us e1 => lift ((chL us).bind fun xs => if xs.length ≤ most then some (.o (.lst xs)) else none) e1
  | .dic ps, e => (evs F ps e).bd fun us e1 => lift ((dicU us).bind fun kvs => if noDup (kvs.map (·.1)) = true ∧ kvs.length ≤ 15 then some (.o (.dic kvs)) else none) e1
  | .sub a i, e => (ev F a e).bd fun x e1 => (ev F i e1).bd fun y e2 => lift (subU e2 x y) e2
  | .slc a lo hi, e => (ev F a e).bd fun x e1 => (evo F lo e1).bd fun l e2 => (evo F hi e2).bd fun h e3 => lift (slcU e3 x l h) e3
  | .rev a, e => (ev F a e).bd fun x e1 => lift (revU e1 x) e1
  | .isi a ts, e => (ev F a e).bd fun x e1 => match ts with
    | [T] => lift (isiU e1 x T) e1
    | _ => .no
  | .bi f es, e => (evs F es e).bd fun us e1 => lift (biU f e1 us) e1
  | .me m a es, e => (ev F a e).bd fun x e1 => if meTy m e1 x = true then (evs F es e1).bd fun us e2 => lift (meU m e2 x us) e2 else .no
  | .mu m i path es, e => if (path.isNil || (qts path && qts es)) = true then
      match ownAt e i with
      | some x => (evp F path e x).bd fun p e1 => (match p.2 with
        | .lst _ => (evs F es e1).bd fun us e2 => updAt (muO m us) e2 i p.1
        | _ => .no)
      | none => .no
    else .no
  | .call k es, e => (evs F es e).bd fun us e1 => match grab es us e1 with
    | some (us, e1) => (match callF F k us with
      | .ok u os => .ok u (back es os e1)
      | .ex x os => .ex x (back es os e1)
      | .no => .no)
    | none => .no
  | .callk k perm es, e => (evs F es e).bd fun us e1 => match callF F k (perm.map fun j => us.getD j .gone) with
    | .ok u os => .ok u e1
    | .ex x os => .ex x e1
    | .no => .no
  | .calv i es, e => match e[i]? with
    | some (some (.f k)) => (evs F es e).sure.bd fun us e1 => (match callF F k us with
      | .ok u os => .ok u (back es os e1)
      | .ex x os => .ex x (back es os e1)
      | .no => .no)
    | _ => .no
  | .lc x t it ifs vs, e => (evi F it e).bd fun xs e1 => if xs.length ≤ most then
      lcL (fun d e => setT t d e) (fun e => evt F ifs e) (fun e => ev F x e) vs xs [] e1 else .no
  | .ixc kvs i, e => (ev F i e).bd fun x e1 => match x with
    | .d (.str z) => lift ((lookC kvs z).map .d) e1
    | _ => .no
  | .inc neg kvs a, e => (ev F a e).bd fun x e1 => match x with
    | .d (.str z) => .ok (.d (.bool (neg != (lookC kvs z).isSome))) e1
    | _ => .no
/-- a path into an own tree -/
def evp (F : Nat → List U → Cr) : CEs → Env → O → Rs (List PyData × O)
  | .nil, e, x => .ok ([], x) e
  | .cons c cs, e, x => (ev F c e).bd fun u e1 => match u with
    | .d k => (match x.kid k with
      | some y => (evp F cs e1 y).bd fun p e2 => .ok (k :: p.1, p.2) e2
      | none => .no)
    | _ => .no
def evs (F : Nat → List U → Cr) : CEs → Env → Rs (List U)
  | .nil, e => .ok [] e
  | .cons a es, e => (ev F a e).bd fun x e1 => (evs F es e1).bd fun us e2 => .ok (x :: us) e2
def evo (F : Nat → List U → Cr) : CO → Env → Rs (Option Int)
  | .none, e => .ok none e
  | .some a, e => (ev F a e).bd fun x e1 => match x with
    | .d (.int i) => .ok (some i) e1
    | _ => .no
def evt (F : Nat → List U → Cr) : CEs → Env → Rs Bool
  | .nil, e => .ok true e
  | .cons a es, e => (ev F a e).bd fun x e1 => match x with
    | .d (.bool true) => evt F es e1
    | .d (.bool false) => .ok false e1
    | _ => .no
def evi (F : Nat → List U → Cr) : CI → Env → Rs (List PyData)
  | .seq a, e => (ev F a e).bd fun x e1 => lift (match x with
    | .d (.tuple xs) => some xs
    | .d (.list xs) => some xs
    | .o (.lst xs) => some (frzL xs)
    | .d (.str s) => if s.length ≤ most then some (s.cps.toList.map fun c => .str ⟨#[c]⟩) else none
    | _ => none) e1
  | .str a, e => (ev F a e).bd fun x e1 => lift (match x with
    | .d (.str s) => if s.length ≤ most then some (s.cps.toList.map fun c => .str ⟨#[c]⟩) else none
    | _ => none) e1
  | .rng es, e => (evs F es e).bd fun us e1 => lift (match us with
    | [.d (.int j)] => if -big < j ∧ j < big then some (rngL 0 j.toNat) else none
    | [.d (.int i), .d (.int j)] => if -big < j ∧ j < big ∧ -big < i ∧ i < big then some (rngL i (j - i).toNat) else none
    | _ => none) e1
  | .enum a, e => (ev F a e).bd fun x e1 => lift (match x with
    | .d (.tuple xs) => some (xs.zipIdx.map fun p => .tuple [.int (p.2 : Nat), p.1])
    | .d (.list xs) => some (xs.zipIdx.map fun p => .tuple [.int (p.2 : Nat), p.1])
    | .o (.lst xs) => some ((frzL xs).zipIdx.map fun p => .tuple [.int (p.2 : Nat), p.1])
    | _ => none) e1
  | .zip a b, e => (ev F a e).bd fun x e1 => (ev F b e1).bd fun y e2 => lift (match x, y with
    | .d (.tuple xs), .d (.tuple ys) => some (zipD xs ys)
    | .d (.list xs), .d (.list ys) => some (zipD xs ys)
    | .o (.lst xs), .d (.list ys) => some (zipD (frzL xs) ys)
    | .d (.list xs), .o (.lst ys) => some (zipD xs (frzL ys))
    | .o (.lst xs), .o (.lst ys) => some (zipD (frzL xs) (frzL ys))
    | _, _ => none) e2
end
end Fi
/-! A frame's state against the interpreter's; readings. -/
namespace Fi
open PySem PySem.Spec PyProof.Rows L2
def fl : Env → L2.St → List (U × V)
  | some u :: e, some v :: s => (u, v) :: fl e s
  | _ :: e, _ :: s => fl e s
  | _, _ => []
theorem fl_take : ∀ {e : Env} {σ : L2.St} {i : Nat} {u : U} {v : V}, e[i]? = some (some u) → σ[i]? = some (some v) → (fl e σ).Perm ((u, v) :: fl (e.set i none) σ)
  | [], _, _, _, _, h, _ => by simp at h
  | _ :: _, [], _, _, _, _, h => by simp at h
  | a :: e, b :: σ, 0, u, v, h1, h2 => by
    simp at h1 h2
    subst h1 h2
    exact .refl _
  | a :: e, b :: σ, i + 1, u, v, h1, h2 => by
    simp at h1 h2
    have ih := fl_take h1 h2
    rw [List.set_cons_succ]
    cases a with
    | none => exact ih
    | some a =>
      cases b with
      | none => exact ih
      | some b => exact (ih.cons _).trans (.swap _ _ _)
theorem fl_none : ∀ {e : Env} {σ : L2.St} {i : Nat} {x : Option V}, e[i]? = some none → fl e (σ.set i x) = fl e σ
  | [], _, _, _, h => by simp at h
  | _ :: _, [], _, _, _ => by simp
  | a :: e, b :: σ, 0, x, h => by
    simp at h
    subst h
    rfl
  | a :: e, b :: σ, i + 1, x, h => by
    simp at h
    have ih := fl_none (σ := σ) (x := x) h
    rw [List.set_cons_succ]
    cases a with
    | none => exact ih
    | some a =>
      cases b with
      | none => exact ih
      | some b => show (a, b) :: _ = (a, b) :: _; rw [ih]
section
variable (K : PySem.W.Frag) (fa : Nat → Addr) (pv : List (Nat × V))
structure Frm (H : Hp) (T : List (U × V)) (e : Env) (σ : L2.St) : Prop where
  rel : Rel K fa H (T ++ fl e σ)
  len : e.length = σ.length
  has : ∀ (i : Nat) (u : U), e[i]? = some (some u) → ∃ v, σ[i]? = some (some v)
  bo : ∀ (i : Nat) (v : V), (U.b i, v) ∈ T → σ[i]? = some (some v)
  pr : ∀ p ∈ pv, σ[p.1]? = some (some p.2)
end
section
variable {K : PySem.W.Frag} {fa : Nat → Addr} {pv : List (Nat × V)} {H H' : Hp} {T T' : List (U × V)} {e : Env} {σ : L2.St} {u : U} {v : V}
theorem Frm.same (f : Frm K fa pv H T e σ) (g : Same H H') : Frm K fa pv H' T e σ := ⟨f.rel.same g, f.len, f.has, f.bo, f.pr⟩
theorem Frm.perm (f : Frm K fa pv H T e σ) (p : T.Perm T') : Frm K fa pv H T' e σ := ⟨f.rel.perm (p.append_right _), f.len, f.has, fun i v h => f.bo i v (p.mem_iff.mpr h), f.pr⟩
theorem Frm.tail (f : Frm K fa pv H ((u, v) :: T) e σ) : Frm K fa pv H T e σ := ⟨f.rel.tail, f.len, f.has, fun i v h => f.bo i v (List.mem_cons_of_mem _ h), f.pr⟩
theorem Frm.drop (f : Frm K fa pv H (T' ++ T) e σ) : Frm K fa pv H T e σ := ⟨Rel.drop (L := T') (by have := f.rel; rw [List.append_assoc] at this; exact this), f.len, f.has, fun i v h => f.bo i v (List.mem_append_right _ h), f.pr⟩
/-- the front is changed, the heap with it -/
theorem Frm.front {T2 : List (U × V)} (f : Frm K fa pv H (T' ++ T) e σ) (h : ∀ L, Rel K fa H (T' ++ L) → Rel K fa H' (T2 ++ L)) (nb : ∀ i v, (U.b i, v) ∈ T2 → (U.b i, v) ∈ T') : Frm K fa pv H' (T2 ++ T) e σ := by
  refine ⟨?_, f.len, f.has, fun i v m => ?_, f.pr⟩
  · rw [List.append_assoc]
    refine h _ ?_
    rw [← List.append_assoc]
    exact f.rel
  · rcases List.mem_append.mp m with m | m
    · exact f.bo i v (List.mem_append_left _ (nb i v m))
    · exact f.bo i v (List.mem_append_right _ m)
theorem Frm.one {u2 : U} {v2 : V} {T1 : List (U × V)} (f : Frm K fa pv H (T1 ++ T) e σ) (h : ∀ L, Rel K fa H (T1 ++ L) → Rel K fa H' ((u2, v2) :: L)) (nb : isB u2 = false) : Frm K fa pv H' ((u2, v2) :: T) e σ :=
  Frm.front (T' := T1) (T2 := [(u2, v2)]) f h fun i v m => by
    rcases List.mem_cons.mp m with q | q
    · cases q; cases nb
    · cases q
theorem Frm.add (f : Frm K fa pv H T e σ) (h : ∀ D : Ban, UR K fa D H u v []) (nb : isB u = false) : Frm K fa pv H ((u, v) :: T) e σ := Frm.one (T1 := []) f (fun L r => r.addV h) nb
theorem Frm.int {i : Int} (f : Frm K fa pv H T e σ) : Frm K fa pv H ((.d (.int i), .int i) :: T) e σ := f.add (fun D => ⟨rfl, by unfold Dq; rfl⟩) rfl
theorem Frm.bl {i : Bool} (f : Frm K fa pv H T e σ) : Frm K fa pv H ((.d (.bool i), .bl i) :: T) e σ := f.add (fun D => ⟨rfl, by unfold Dq; rfl⟩) rfl
theorem Frm.str {i : Str} (f : Frm K fa pv H T e σ) : Frm K fa pv H ((.d (.str i), .str i) :: T) e σ := f.add (fun D => ⟨rfl, by unfold Dq; rfl⟩) rfl
theorem Frm.non (f : Frm K fa pv H T e σ) : Frm K fa pv H ((.d .none, .non) :: T) e σ := f.add (fun D => ⟨rfl, by unfold Dq; rfl⟩) rfl
/-- data of the frame is looked at -/
theorem Frm.head (f : Frm K fa pv H ((u, v) :: T) e σ) : ∃ (D : Ban) (A : List Addr), UR K fa D H u v A := by
  obtain ⟨D, A, h, _⟩ := f.rel.head
  exact ⟨D, A, h⟩
theorem Frm.dint {i : Int} (f : Frm K fa pv H ((.d (.int i), v) :: T) e σ) : v = .int i := by
  obtain ⟨D, A, _, h⟩ := f.head
  unfold Dq at h
  exact h
theorem Frm.dbl {i : Bool} (f : Frm K fa pv H ((.d (.bool i), v) :: T) e σ) : v = .bl i := by
  obtain ⟨D, A, _, h⟩ := f.head
  unfold Dq at h
  exact h
theorem Frm.dstr {i : Str} (f : Frm K fa pv H ((.d (.str i), v) :: T) e σ) : v = .str i := by
  obtain ⟨D, A, _, h⟩ := f.head
  unfold Dq at h
  exact h
theorem Frm.dnon (f : Frm K fa pv H ((.d .none, v) :: T) e σ) : v = .non := by
  obtain ⟨D, A, _, h⟩ := f.head
  unfold Dq at h
  exact h
theorem Frm.swap {u2 : U} {v2 : V} (f : Frm K fa pv H ((u, v) :: (u2, v2) :: T) e σ) : Frm K fa pv H ((u2, v2) :: (u, v) :: T) e σ := f.perm (.swap _ _ _)
theorem Frm.dup (f : Frm K fa pv H ((u, v) :: T) e σ) (fr : u.fre) : Frm K fa pv H ((u, v) :: (u, v) :: T) e σ := ⟨f.rel.dup fr, f.len, f.has, fun i w m => by
  rcases List.mem_cons.mp m with q | q
  · exact f.bo i w (by rw [q]; exact List.mem_cons_self)
  · exact f.bo i w q, f.pr⟩
theorem Frm.frz {x : O} (f : Frm K fa pv H ((.o x, v) :: T) e σ) : Frm K fa pv H ((.d (frz x), v) :: T) e σ := Frm.one (T1 := [(.o x, v)]) f (fun L r => r.frz) rfl
/-- a slot's value is taken out -/
theorem Frm.pull {i : Nat} (f : Frm K fa pv H T e σ) (h : e[i]? = some (some u)) (nb : isB u = false) : ∃ v, σ[i]? = some (some v) ∧ Frm K fa pv H ((u, v) :: T) (e.set i none) σ := by
  obtain ⟨v, hv⟩ := f.has i u h
  refine ⟨v, hv, f.rel.perm ((List.Perm.append_left T (fl_take h hv)).trans List.perm_middle), by rw [List.length_set]; exact f.len, fun j w hj => ?_, fun j w m => ?_, f.pr⟩
  · by_cases e1 : i = j
    · subst e1
      have hl : i < e.length := by
        cases Nat.lt_or_ge i e.length with
        | inl h => exact h
        | inr h2 => rw [List.getElem?_eq_none_iff.mpr h2] at h; cases h
      rw [List.getElem?_set_self hl] at hj
      cases hj
    · rw [List.getElem?_set_ne e1] at hj
      exact f.has j w hj
  · rcases List.mem_cons.mp m with q | q
    · cases q; cases nb
    · exact f.bo j w q
theorem set_get {α : Type} {l : List α} {i : Nat} {x y : α} (h : l[i]? = some x) : (l.set i y)[i]? = some y := by
  cases Nat.lt_or_ge i l.length with
  | inl h2 => exact List.getElem?_set_self h2
  | inr h2 => rw [List.getElem?_eq_none_iff.mpr h2] at h; cases h
/-- it is put back -/
theorem Frm.push {i : Nat} (f : Frm K fa pv H ((u, v) :: T) e σ) (h : e[i]? = some none) (hv : σ[i]? = some (some v)) : Frm K fa pv H T (e.set i (some u)) σ := by
  have h1 : (e.set i (some u))[i]? = some (some u) := set_get h
  have p := fl_take h1 hv
  have e2 : (e.set i (some u)).set i none = e := by
    rw [List.set_set]
    exact List.ext_getElem? fun j => by
      by_cases q : i = j
      · subst q; rw [set_get h, h]
      · rw [List.getElem?_set_ne q]
  rw [e2] at p
  refine ⟨f.rel.perm (List.perm_middle.symm.trans (List.Perm.append_left T p.symm)), by rw [List.length_set]; exact f.len, fun j w hj => ?_, fun j w m => f.bo j w (List.mem_cons_of_mem _ m), f.pr⟩
  by_cases q : i = j
  · subst q; exact ⟨v, hv⟩
  · rw [List.getElem?_set_ne q] at hj; exact f.has j w hj
/-- a slot's data is looked at -/
theorem Frm.look {i : Nat} (f : Frm K fa pv H T e σ) (h : e[i]? = some (some u)) (fr : u.fre) (nb : isB u = false) : ∃ v, σ[i]? = some (some v) ∧ Frm K fa pv H ((u, v) :: T) e σ := by
  obtain ⟨v, hv, g⟩ := f.pull h nb
  refine ⟨v, hv, ?_⟩
  have g2 := (g.dup fr).push (i := i) (set_get h) hv
  have e2 : (e.set i none).set i (some u) = e := by
    rw [List.set_set]
    exact List.ext_getElem? fun j => by
      by_cases q : i = j
      · subst q; rw [set_get h, h]
      · rw [List.getElem?_set_ne q]
  rw [e2] at g2
  exact g2
end
/-! ### outcomes -/
def out {α : Type} (r : Rs α) (p : α → Env → Prop) (q : Xn → Env → Prop) : Prop := match r with
  | .ok a e => p a e
  | .ex x e => q x e
  | .no => False
theorem out_bd {α β : Type} {r : Rs α} {f : α → Env → Rs β} {p : β → Env → Prop} {q : Xn → Env → Prop} : out (r.bd f) p q ↔ out r (fun a e => out (f a e) p q) q := by
  cases r <;> exact Iff.rfl
theorem out_mono {α : Type} {r : Rs α} {p p' : α → Env → Prop} {q q' : Xn → Env → Prop} (h : out r p q) (hp : ∀ a e, p a e → p' a e) (hq : ∀ x e, q x e → q' x e) : out r p' q' := by
  cases r with
  | ok a e => exact hp _ _ h
  | ex x e => exact hq _ _ h
  | no => exact h
theorem out_lift {α : Type} {o : Option α} {e : Env} {p : α → Env → Prop} {q : Xn → Env → Prop} (h : out (lift o e) p q) : ∃ z, o = some z ∧ p z e := by
  cases o with
  | none => exact h.elim
  | some z => exact ⟨z, rfl, h⟩
/-- what surrounds a reading: the module's facts, the defs' meanings, what is wanted of errors -/
structure Sur where
  K : PySem.W.Frag
  mg : Str → Option Value
  fa : Nat → Addr
  pv : List (Nat × V)
  F : Nat → List U → Cr
  W : WX
abbrev Sur.fr (S : Sur) := Frm S.K S.fa S.pv
/-- an error on its way out -/
def XF (S : Sur) (H : Hp) (x : Xn) (cls : Value) (d : Option Addr) (T : List (U × V)) (e : Env) (σ : L2.St) : Prop :=
  S.mg x.cls = some cls ∧ match x.fld with
  | none => d = none ∧ S.fr H T e σ
  | some (f, y) => ∃ dx v, d = some dx ∧ H dx = some (.xd [(f, v)]) ∧ S.fr H ((.d y, v) :: T) e σ
theorem XF.tail {S : Sur} {H : Hp} {x : Xn} {cls : Value} {d : Option Addr} {u : U} {v : V} {T : List (U × V)} {e : Env} {σ : L2.St} (h : XF S H x cls d ((u, v) :: T) e σ) : XF S H x cls d T e σ := by
  obtain ⟨h1, h2⟩ := h
  refine ⟨h1, ?_⟩
  cases q : x.fld with
  | none => rw [q] at h2; exact ⟨h2.1, h2.2.tail⟩
  | some p =>
    rw [q] at h2
    obtain ⟨dx, w, e1, e2, f⟩ := h2
    exact ⟨dx, w, e1, e2, f.swap.tail⟩
/-- the wish of an error -/
def xw (S : Sur) (T : List (U × V)) (σ : L2.St) : Xn → Env → Prop := fun x e => ∀ cls d H, XF S H x cls d T e σ → S.W cls d σ H
theorem xw_tail {S : Sur} {u : U} {v : V} {T : List (U × V)} {σ : L2.St} : ∀ x e, xw S T σ x e → xw S ((u, v) :: T) σ x e := fun x e h cls d H k => h cls d H k.tail
/-- a name that moved: its value is the slot's -/
def mvf (c : CE) (σ : L2.St) (v : V) : Prop := match c with
  | .mv i => σ[i]? = some (some v)
  | .lt i => σ[i]? = some (some v)
  | _ => True
def mvfs : CEs → L2.St → List V → Prop
  | .nil, _, _ => True
  | .cons c cs, σ, v :: vs => mvf c σ v ∧ mvfs cs σ vs
  | .cons _ _, _, [] => True
/-- what is known besides behind an expression -/
structure Sid (c : CE) (σ : L2.St) (H : Hp) (v : V) (H1 : Hp) : Prop where
  sm : qt c = true → Same H H1
  mv : mvf c σ v
theorem sid {c : CE} {σ : L2.St} {H : Hp} {v : V} {H1 : Hp} (h : qt c = true → Same H H1) (m : mvf c σ v := by trivial) : Sid c σ H v H1 := ⟨h, m⟩
def lE (S : Sur) (c : CE) : TE := fun σ H Q => ∃ T e, S.fr H T e σ ∧ out (ev S.F c e) (fun u e1 => ∀ v H1, S.fr H1 ((u, v) :: T) e1 σ → Sid c σ H v H1 → Q v H1) (xw S T σ)
def lO (S : Sur) (c : CO) : TO := fun σ H Q => ∃ T e, S.fr H T e σ ∧ out (evo S.F c e) (fun i e1 => ∀ H1, S.fr H1 T e1 σ → Q i H1) (xw S T σ)
def lA (S : Sur) (c : CEs) : TA := fun σ H Q => ∃ T e, S.fr H T e σ ∧ out (evs S.F c e) (fun us e1 => ∀ vs H1, us.length = vs.length → S.fr H1 (us.zip vs ++ T) e1 σ → (qts c = true → Same H H1) ∧ mvfs c σ vs → Q vs H1) (xw S T σ)
def lT (S : Sur) (c : CE) : TT := fun σ H Q => ∃ T e, S.fr H T e σ ∧ out (ev S.F c e) (fun u e1 => ∃ b, u = .d (.bool b) ∧ ∀ H1, S.fr H1 T e1 σ → (qt c = true → Same H H1) → Q b H1) (xw S T σ)
section
variable {X : Cx} {S : Sur} {e a b : Expr} {es rest : List Expr} {ca cb cc : CE} {cs : CEs} {pos : Pos} {σ : L2.St} {H : Hp}
theorem imp_e {t t' : TE} (h : PE X e t) (k : ∀ σ H Q, t' σ H Q → t σ H Q) : PE X e t' := ⟨fun pins s σ H Q I h' => h.run pins s σ H Q I (k σ H Q h')⟩
theorem imp_t {t t' : TT} (h : PT X e t) (k : ∀ σ H Q, t' σ H Q → t σ H Q) : PT X e t' := ⟨fun pins s σ H Q I h' => h.run pins s σ H Q I (k σ H Q h')⟩
theorem imp_a {t t' : TA} (h : PA X es t) (k : ∀ σ H Q, t' σ H Q → t σ H Q) : PA X es t' := ⟨fun pos pins s σ H Q I h' => h.run pos pins s σ H Q I (k σ H Q h')⟩
/-! ### names, constants -/
theorem s_var {i : Nat} {x : Str} (hN : X.N[i]? = some x) (hv : Vis X.env.scope x) (hd : (x == ("__debug__" : Str)) = false) (hcd : (x == ("__classdict__" : Str)) = false) : PE X (.Name x pos) (lE S (.var i)) := imp_e (pe_var hN hv hd hcd) fun σ H Q ⟨T, e, f, h⟩ => by
  unfold ev at h
  split at h
  · rename_i y he
    obtain ⟨v, hv, g⟩ := f.look he trivial rfl
    exact ⟨v, hv, h v H g (sid fun _ => Same.refl H)⟩
  · rename_i y he
    obtain ⟨v, hv, g⟩ := f.pull he rfl
    have g2 := (g.frz.dup trivial).push (set_get he) hv
    rw [List.set_set] at g2
    exact ⟨v, hv, h v H g2 (sid fun _ => Same.refl H)⟩
  · rename_i k he
    obtain ⟨v, hv, g⟩ := f.look he trivial rfl
    exact ⟨v, hv, h v H g (sid fun _ => Same.refl H)⟩
  · rename_i xs he
    obtain ⟨v, hv, g⟩ := f.look he trivial rfl
    exact ⟨v, hv, h v H g (sid fun _ => Same.refl H)⟩
  · exact h.elim
theorem s_pv {i : Nat} {x : Str} (hN : X.N[i]? = some x) (hv : Vis X.env.scope x) (hd : (x == ("__debug__" : Str)) = false) (hcd : (x == ("__classdict__" : Str)) = false) : PE X (.Name x pos) (lE S (.pv i)) := imp_e (pe_var hN hv hd hcd) fun σ H Q ⟨T, e, f, h⟩ => by
  unfold ev at h
  split at h
  · rename_i y he
    obtain ⟨v, hv, g⟩ := f.look he trivial rfl
    exact ⟨v, hv, h v H g (sid fun _ => Same.refl H)⟩
  · rename_i y he
    obtain ⟨v, hv⟩ := f.has i _ he
    refine ⟨v, hv, h v H ⟨f.rel.addV fun D => rfl, f.len, f.has, fun j w m => ?_, f.pr⟩ (sid fun _ => Same.refl H)⟩
    rcases List.mem_cons.mp m with q | q
    · cases q; exact hv
    · exact f.bo j w q
  · rename_i k he
    obtain ⟨v, hv, g⟩ := f.look he trivial rfl
    exact ⟨v, hv, h v H g (sid fun _ => Same.refl H)⟩
  · rename_i xs he
    obtain ⟨v, hv, g⟩ := f.look he trivial rfl
    exact ⟨v, hv, h v H g (sid fun _ => Same.refl H)⟩
  · exact h.elim
theorem s_lt {i : Nat} {x : Str} (hN : X.N[i]? = some x) (hv : Vis X.env.scope x) (hd : (x == ("__debug__" : Str)) = false) (hcd : (x == ("__classdict__" : Str)) = false) : PE X (.Name x pos) (lE S (.lt i)) := imp_e (pe_var hN hv hd hcd) fun σ H Q ⟨T, e, f, h⟩ => by
  unfold ev at h
  split at h
  · rename_i y he
    obtain ⟨v, hv, g⟩ := f.look he trivial rfl
    exact ⟨v, hv, h v H g (sid (fun _ => Same.refl H) hv)⟩
  · rename_i y he
    obtain ⟨v, hv⟩ := f.has i _ he
    refine ⟨v, hv, h v H ⟨f.rel.addV fun D => rfl, f.len, f.has, fun j w m => ?_, f.pr⟩ (sid (fun _ => Same.refl H) hv)⟩
    rcases List.mem_cons.mp m with q | q
    · cases q; exact hv
    · exact f.bo j w q
  · rename_i k he
    obtain ⟨v, hv, g⟩ := f.look he trivial rfl
    exact ⟨v, hv, h v H g (sid (fun _ => Same.refl H) hv)⟩
  · rename_i xs he
    obtain ⟨v, hv, g⟩ := f.look he trivial rfl
    exact ⟨v, hv, h v H g (sid (fun _ => Same.refl H) hv)⟩
  · exact h.elim
theorem s_mv {i : Nat} {x : Str} (hN : X.N[i]? = some x) (hv : Vis X.env.scope x) (hd : (x == ("__debug__" : Str)) = false) (hcd : (x == ("__classdict__" : Str)) = false) : PE X (.Name x pos) (lE S (.mv i)) := imp_e (pe_var hN hv hd hcd) fun σ H Q ⟨T, e, f, h⟩ => by
  unfold ev at h
  split at h
  · rename_i y he
    obtain ⟨v, hv, g⟩ := f.look he trivial rfl
    exact ⟨v, hv, h v H g (sid (fun _ => Same.refl H) hv)⟩
  · rename_i y he
    obtain ⟨v, hv, g⟩ := f.pull he rfl
    exact ⟨v, hv, h v H g (sid (fun _ => Same.refl H) hv)⟩
  · rename_i k he
    obtain ⟨v, hv, g⟩ := f.look he trivial rfl
    exact ⟨v, hv, h v H g (sid (fun _ => Same.refl H) hv)⟩
  · rename_i xs he
    obtain ⟨v, hv, g⟩ := f.look he trivial rfl
    exact ⟨v, hv, h v H g (sid (fun _ => Same.refl H) hv)⟩
  · exact h.elim
theorem s_cst {x : PyData} {v : V} (h : PE X e (tC v)) (hq : ∀ (D : Ban) (H : Hp), Dq S.K D H x v) : PE X e (lE S (.cst x)) := imp_e h fun σ H Q ⟨T, e, f, h⟩ => h v H (f.add (fun D => ⟨rfl, hq D H⟩) rfl) (sid fun _ => Same.refl H)
theorem s_fn {k : Nat} (h : PE X e (tC (.ref (S.fa k)))) : PE X e (lE S (.fn k)) := imp_e h fun σ H Q ⟨T, e, f, h⟩ => h _ H (f.add (fun D => ⟨rfl, rfl⟩) rfl) (sid fun _ => Same.refl H)
theorem s_int {i j} : PE X (.Constant (.int i) j pos) (lE S (.cst (.int i))) := s_cst pe_int fun D H => by unfold Dq; rfl
theorem s_bl {i j} : PE X (.Constant (.bool i) j pos) (lE S (.cst (.bool i))) := s_cst pe_bl fun D H => by unfold Dq; rfl
theorem s_non {j} : PE X (.Constant .none j pos) (lE S (.cst .none)) := s_cst pe_non fun D H => by unfold Dq; rfl
theorem s_str {i j} : PE X (.Constant (.str i) j pos) (lE S (.cst (.str i))) := s_cst pe_str fun D H => by unfold Dq; rfl
/-! ### operations -/
def OpS (S : Sur) (rr : R2) (g : Env → U → U → Option U) : Prop := ∀ (H : Hp) (T : List (U × V)) (e : Env) (σ : L2.St) (x y z : U) (v1 v2 : V) (Q : VK), S.fr H ((y, v2) :: (x, v1) :: T) e σ → g e x y = some z →
  (∀ v H1, S.fr H1 ((z, v) :: T) e σ → Same H H1 → Q v H1) → rr v1 v2 H Q
theorem two {R : V → V → Hp → Prop} {T : List (U × V)} {e : Env} {q : U → U → Env → Prop} (f : S.fr H T e σ)
    (h : out (ev S.F ca e) (fun x e1 => out (ev S.F cb e1) (fun y e2 => q x y e2) (xw S T σ)) (xw S T σ))
    (k : ∀ x y e2 v1 v2 H2, q x y e2 → S.fr H2 ((y, v2) :: (x, v1) :: T) e2 σ → (qt ca = true → qt cb = true → Same H H2) → R v1 v2 H2) : lE S ca σ H fun v1 H1 => lE S cb σ H1 fun v2 H2 => R v1 v2 H2 :=
  ⟨T, e, f, out_mono h (fun x e1 h1 v1 H1 f1 s1 => ⟨_, e1, f1, out_mono h1 (fun y e2 h2 v2 H2 f2 s2 => k x y e2 v1 v2 H2 h2 f2 fun q1 q2 => (s1.sm q1).trans (s2.sm q2)) xw_tail⟩) fun _ _ z => z⟩
theorem op_get {rr : R2} {g : Env → U → U → Option U} {c : CE} (hs : OpS S rr g) (hm : ∀ v, mvf c σ v) (hev : ∀ e, ev S.F c e = (ev S.F ca e).bd fun x e1 => (ev S.F cb e1).bd fun y e2 => lift (g e2 x y) e2) (hq : qt c = true → qt ca = true ∧ qt cb = true) {Q : VK} (h : lE S c σ H Q) : tOp rr (lE S ca) (lE S cb) σ H Q := by
  obtain ⟨T, e, f, h⟩ := h
  rw [hev] at h
  refine two (q := fun x y e2 => out (lift (g e2 x y) e2) (fun u e1 => ∀ v H1, S.fr H1 ((u, v) :: T) e1 σ → Sid c σ H v H1 → Q v H1) (xw S T σ)) f (out_mono (out_bd.mp h) (fun x e1 h1 => out_bd.mp h1) fun _ _ z => z) fun x y e2 v1 v2 H2 h2 f2 s2 => ?_
  obtain ⟨z, ez, k⟩ := out_lift h2
  exact hs H2 T e2 σ x y z v1 v2 Q f2 ez fun v H1 f3 s3 => k v H1 f3 ⟨fun qq => (s2 (hq qq).1 (hq qq).2).trans s3, hm v⟩
theorem qt2 {p q : Bool} (h : (p && q) = true) : p = true ∧ q = true := by simpa using h
theorem s_bin {op : Operator} {bop : Bop} {rr : R2} (ho : OpR X (binaryOp op) rr) (hs : OpS S rr (binU bop)) (ha : PE X a (lE S ca)) (hb : PE X b (lE S cb)) : PE X (.BinOp a op b pos) (lE S (.bin bop ca cb)) :=
  imp_e (pe_op ho ha hb) fun _ _ _ h => op_get (c := .bin bop ca cb) hs (fun _ => trivial) (fun e => by rw [ev]) (fun q => qt2 (by rw [qt] at q; exact q)) h
theorem s_cmp {op : CmpOp} {cop : Cop} {rr : R2} (ho : OpR X (compareOp op) rr) (hs : OpS S rr (cmpU cop)) (ha : PE X a (lE S ca)) (hb : PE X b (lE S cb)) (hm : behindInMarks op b = false) : PE X (.Compare a [op] [b] pos) (lE S (.cmp cop ca cb)) :=
  imp_e (pe_cmpR ho ha hb hm) fun _ _ _ h => op_get (c := .cmp cop ca cb) hs (fun _ => True.intro) (fun e => by rw [ev]) (fun q => qt2 (by rw [qt] at q; exact q)) h
theorem s_sub {rr : R2} (ho : IxR X rr) (hs : OpS S rr subU) (ha : PE X a (lE S ca)) (hb : PE X b (lE S cb)) (hp : PlainIx b) : PE X (.Subscript a b pos) (lE S (.sub ca cb)) :=
  imp_e (pe_ix ho ha hb hp) fun _ _ _ h => op_get (c := .sub ca cb) hs (fun _ => True.intro) (fun e => by rw [ev]) (fun q => qt2 (by rw [qt] at q; exact q)) h
theorem chn_get {cop cop' : Cop} {rr rr' : R2} (hs : OpS S rr (cmpU cop)) (hs' : OpS S rr' (cmpU cop')) (fre : ∀ {x y : U} {e : Env} {z : U}, cmpU cop e x y = some z → cop = .le ∨ cop = .lt → y.fre ∧ isB y = false) (hc' : cop = .le ∨ cop = .lt) {Q : VK} (h : lE S (.chn cop cop' ca cb cc) σ H Q) : tChain rr rr' (lE S ca) (lE S cb) (lE S cc) σ H Q := by
  obtain ⟨T, e, f, h⟩ := h
  rw [ev] at h
  have h := out_bd.mp h
  refine two (q := fun x y e2 => out ((lift (cmpU cop e2 x y) e2).bd fun z e3 => match z with
    | .d (.bool true) => (ev S.F cc e3).bd fun w e4 => lift (cmpU cop' e4 y w) e4
    | .d (.bool false) => .ok (.d (.bool false)) e3
    | _ => .no) (fun u e1 => ∀ v H1, S.fr H1 ((u, v) :: T) e1 σ → Sid (.chn cop cop' ca cb cc) σ H v H1 → Q v H1) (xw S T σ)) f (out_mono h (fun x e1 h1 => out_bd.mp h1) fun _ _ z => z) fun x y e2 v1 v2 H2 h2 f2 s2 => ?_
  have h2 := out_bd.mp h2
  obtain ⟨z, ez, k⟩ := out_lift h2
  have hf := fre ez hc'
  -- y is kept beside
  have f3 : S.fr H2 ((y, v2) :: (x, v1) :: (y, v2) :: T) e2 σ := (f2.dup hf.1).perm (.cons _ (.swap _ _ _))
  have hqq : qt (.chn cop cop' ca cb cc) = true → qt ca = true ∧ qt cb = true ∧ qt cc = true := fun q => by
    rw [qt] at q
    simp only [Bool.and_eq_true] at q
    exact ⟨q.1.1, q.1.2, q.2⟩
  refine hs H2 ((y, v2) :: T) e2 σ x y z v1 v2 _ f3 ez fun v H3 f4 s4 => ?_
  split at k
  · have := f4.dbl
    refine ⟨true, this, ?_⟩
    have k := out_bd.mp k
    refine iteT ⟨(y, v2) :: T, e2, f4.tail, out_mono k (fun w e4 h4 v3 H4 f5 s5 => ?_) xw_tail⟩
    obtain ⟨z2, ez2, k2⟩ := out_lift h4
    refine hs' H4 T e4 σ y w z2 v2 v3 Q f5 ez2 fun v H5 f6 s6 => k2 v H5 f6 (sid fun q => ?_)
    obtain ⟨q1, q2, q3⟩ := hqq q
    exact (((s2 q1 q2).trans s4).trans (s5.sm q3)).trans s6
  · have := f4.dbl
    refine ⟨false, this, iteF (k _ H3 f4.tail.tail.bl (sid fun q => ?_))⟩
    obtain ⟨q1, q2, q3⟩ := hqq q
    exact (s2 q1 q2).trans s4
  · exact k.elim
/-! ### -x, not, and, or, if -/
theorem s_neg (ha : PE X a (lE S ca)) : PE X (.UnaryOp .USub a pos) (lE S (.neg ca)) := imp_e (pe_un un_neg ha) fun σ H Q ⟨T, e, f, h⟩ => by
  rw [ev] at h
  refine ⟨T, e, f, out_mono (out_bd.mp h) (fun x e1 h1 v H1 f1 s1 => ?_) fun _ _ z => z⟩
  split at h1
  · exact ⟨_, f1.dint, h1 _ H1 f1.tail.int (sid fun q => s1.sm (by rw [qt] at q; exact q))⟩
  · exact h1.elim
theorem s_nt (ha : PE X a (lE S ca)) : PE X (.UnaryOp .Not a pos) (lE S (.nt ca)) := imp_e (pe_not ha) fun σ H Q ⟨T, e, f, h⟩ => by
  rw [ev] at h
  refine ⟨T, e, f, out_mono (out_bd.mp h) (fun x e1 h1 v H1 f1 s1 => ?_) fun _ _ z => z⟩
  split at h1
  · exact ⟨_, f1.dbl, h1 _ H1 f1.tail.bl (sid fun q => s1.sm (by rw [qt] at q; exact q))⟩
  · exact h1.elim
theorem s_an (ha : PE X a (lE S ca)) (hb : PE X (.BoolOp .And (b :: rest) pos) (lE S cb)) : PE X (.BoolOp .And (a :: b :: rest) pos) (lE S (.an ca cb)) := imp_e (pe_and ha hb) fun σ H Q ⟨T, e, f, h⟩ => by
  rw [ev] at h
  refine ⟨T, e, f, out_mono (out_bd.mp h) (fun x e1 h1 v H1 f1 s1 => ?_) fun _ _ z => z⟩
  split at h1
  · exact ⟨true, f1.dbl, iteT ⟨T, e1, f1.tail, out_mono h1 (fun u e2 h2 v2 H2 f2 s2 => h2 v2 H2 f2 (sid fun q => by
      rw [qt] at q
      exact (s1.sm (qt2 q).1).trans (s2.sm (qt2 q).2))) fun _ _ z => z⟩⟩
  · exact ⟨false, f1.dbl, iteF (h1 _ H1 f1.tail.bl (sid fun q => s1.sm (by rw [qt] at q; exact (qt2 q).1)))⟩
  · exact h1.elim
theorem s_or (ha : PE X a (lE S ca)) (hb : PE X (.BoolOp .Or (b :: rest) pos) (lE S cb)) : PE X (.BoolOp .Or (a :: b :: rest) pos) (lE S (.orr ca cb)) := imp_e (pe_or ha hb) fun σ H Q ⟨T, e, f, h⟩ => by
  rw [ev] at h
  refine ⟨T, e, f, out_mono (out_bd.mp h) (fun x e1 h1 v H1 f1 s1 => ?_) fun _ _ z => z⟩
  split at h1
  · exact ⟨true, f1.dbl, iteT (h1 _ H1 f1.tail.bl (sid fun q => s1.sm (by rw [qt] at q; exact (qt2 q).1)))⟩
  · exact ⟨false, f1.dbl, iteF ⟨T, e1, f1.tail, out_mono h1 (fun u e2 h2 v2 H2 f2 s2 => h2 v2 H2 f2 (sid fun q => by
      rw [qt] at q
      exact (s1.sm (qt2 q).1).trans (s2.sm (qt2 q).2))) fun _ _ z => z⟩⟩
  · exact h1.elim
theorem s_ife {t : Expr} (ht : PT X t (lT S ca)) (ha : PE X a (lE S cb)) (hb : PE X b (lE S cc)) : PE X (.IfExp t a b pos) (lE S (.ife ca cb cc)) := imp_e (pe_ifExp ht ha hb) fun σ H Q ⟨T, e, f, h⟩ => by
  rw [ev] at h
  refine ⟨T, e, f, out_mono (out_bd.mp h) (fun x e1 h1 => ?_) fun _ _ z => z⟩
  split at h1
  · refine ⟨true, rfl, fun H1 f1 s1 => iteT ⟨T, e1, f1, out_mono h1 (fun u e2 h2 v2 H2 f2 s2 => h2 v2 H2 f2 (sid fun q => ?_)) fun _ _ z => z⟩⟩
    rw [qt] at q
    simp only [Bool.and_eq_true] at q
    exact (s1 q.1.1).trans (s2.sm q.1.2)
  · refine ⟨false, rfl, fun H1 f1 s1 => iteF ⟨T, e1, f1, out_mono h1 (fun u e2 h2 v2 H2 f2 s2 => h2 v2 H2 f2 (sid fun q => ?_)) fun _ _ z => z⟩⟩
    rw [qt] at q
    simp only [Bool.and_eq_true] at q
    exact (s1 q.1.1).trans (s2.sm q.2)
  · exact h1.elim
/-- an expression as a test -/
theorem t_val (ha : PE X a (lE S ca)) (he : ∀ whole, isTrue a X.env whole = (do let v ← whole; standAt a.pos; holding [v] (truthy v))) : PT X a (lT S ca) := imp_t (pt_val ha he) fun σ H Q ⟨T, e, f, h⟩ =>
  ⟨T, e, f, out_mono h (fun x e1 ⟨b, eb, h1⟩ v H1 f1 s1 => by
    subst eb
    exact ⟨b, f1.dbl, h1 H1 f1.tail s1.sm⟩) fun _ _ z => z⟩
theorem t_nt (ha : PT X a (lT S ca)) : PT X (.UnaryOp .Not a pos) (lT S (.nt ca)) := imp_t (pt_not ha) fun σ H Q ⟨T, e, f, h⟩ => by
  rw [ev] at h
  refine ⟨T, e, f, out_mono (out_bd.mp h) (fun x e1 h1 => ?_) fun _ _ z => z⟩
  split at h1
  · obtain ⟨c, ec, k⟩ := h1
    cases ec
    exact ⟨_, rfl, fun H1 f1 s1 => k H1 f1 fun q => s1 (by rw [qt] at q; exact q)⟩
  · exact h1.elim
/-! ### arguments, displays -/
theorem a_nil : PA X [] (lA S .nil) := imp_a pa_nil fun σ H Q ⟨T, e, f, h⟩ => h [] H rfl f ⟨fun _ => Same.refl H, trivial⟩
theorem a_cons (ha : PE X a (lE S ca)) (hr : PA X es (lA S cs)) (hs : starEach (a :: es) X.env = (false, eval a X.env) :: starEach es X.env) : PA X (a :: es) (lA S (.cons ca cs)) := imp_a (pa_cons ha hr hs) fun σ H Q ⟨T, e, f, h⟩ => by
  rw [evs] at h
  refine ⟨T, e, f, out_mono (out_bd.mp h) (fun x e1 h1 v H1 f1 s1 => ⟨_, e1, f1, out_mono (out_bd.mp h1) (fun us e2 h2 vs H2 l f2 s2 => ?_) xw_tail⟩) fun _ _ z => z⟩
  refine h2 (v :: vs) H2 (by simp [l]) (f2.perm ?_) ⟨fun q => ?_, s1.mv, s2.2⟩
  · exact List.perm_middle
  · rw [qts] at q
    exact (s1.sm (qt2 q).1).trans (s2.1 (qt2 q).2)
theorem Frm.zb {us : List U} {vs : List V} {T : List (U × V)} {e : Env} {K : PySem.W.Frag} {fa : Nat → Addr} {pv : List (Nat × V)} (f : Frm K fa pv H (us.zip vs ++ T) e σ) : Rel K fa H (us.zip vs ++ (T ++ fl e σ)) := by
  have := f.rel
  rw [List.append_assoc] at this
  exact this
theorem datL_dats {us : List U} {xs : List PyData} : ∀ {vs : List V} {L : List (U × V)} {K : PySem.W.Frag} {fa : Nat → Addr}, us.length = vs.length → datL us = some xs → Rel K fa H (us.zip vs ++ L) → ∃ ws : List U, ws.length = vs.length ∧ dats ws = some xs ∧ Rel K fa H (ws.zip vs ++ L) := by
  induction us generalizing xs with
  | nil => intro vs L K fa l e r; cases e; exact ⟨[], l, rfl, r⟩
  | cons u us ih =>
    intro vs L K fa l e r
    cases vs with
    | nil => cases l
    | cons v vs =>
      unfold datL at e
      cases q : u.dat with
      | none => rw [q] at e; cases e
      | some x =>
        cases q2 : datL us with
        | none => rw [q, q2] at e; cases e
        | some ys =>
          rw [q, q2] at e
          cases e
          have r1 : Rel K fa H ((u, v) :: (us.zip vs ++ L)) := r
          have r2 : Rel K fa H ((.d x, v) :: (us.zip vs ++ L)) := by
            cases u with
            | d y => cases q; exact r1
            | o y => cases q; exact r1.frz
            | _ => cases q
          obtain ⟨ws, l2, e2, r3⟩ := ih (vs := vs) (L := (.d x, v) :: L) (by simpa using l) q2 (r2.perm List.perm_middle.symm)
          exact ⟨.d x :: ws, by simp [l2], by unfold dats; rw [e2]; rfl, r3.perm List.perm_middle⟩
theorem s_tup {x1} (h : PA X es (lA S cs)) : PE X (.Tuple es x1 pos) (lE S (.tup cs)) := imp_e (pe_tup h) fun σ H Q ⟨T, e, f, h⟩ => by
  rw [ev] at h
  refine ⟨T, e, f, out_mono (out_bd.mp h) (fun us e1 h1 vs H1 l f1 s1 => ?_) fun _ _ z => z⟩
  obtain ⟨z, ez, k⟩ := out_lift h1
  cases q : datL us with
  | none => rw [q] at ez; cases ez
  | some xs =>
    rw [q] at ez
    have ez : (if xs.length ≤ most then some (U.d (.tuple xs)) else none) = some z := ez
    split at ez
    · rename_i hl
      cases ez
      obtain ⟨ws, l2, e2, r2⟩ := datL_dats l q f1.zb
      obtain ⟨A, n, hq, hr⟩ := r2.front l2 e2
      refine ⟨?_, fun p hp => ?_⟩
      · rw [hq.length]
        exact Nat.le_trans hl (by rw [PySem.sizeLine_eq]; decide)
      · refine k _ _ (Frm.one (T1 := us.zip vs) f1 (fun L r => ?_) rfl) (sid fun q => (s1.1 (by rw [qt] at q; exact q)).trans (same_new hp _))
        obtain ⟨ws, l2, e2, r2⟩ := datL_dats l q r
        exact r2.newT l2 e2 hp
    · cases ez
theorem chL_chO {us : List U} : chL us = chO us := by
  induction us with
  | nil => rfl
  | cons u us ih =>
    cases u with
    | d x => unfold chL chO; rw [ih]
    | o x => unfold chL chO; rw [ih]
    | _ => rfl
theorem chO_length : ∀ {us : List U} {os : List O}, chO us = some os → os.length = us.length
  | [], os, e => by cases e; rfl
  | u :: us, os, e => by
    unfold chO at e
    cases u with
    | d x =>
      cases q : chO us with
      | none => simp only [q] at e; cases e
      | some ys => simp only [q] at e; cases e; simp [chO_length q]
    | o x =>
      cases q : chO us with
      | none => simp only [q] at e; cases e
      | some ys => simp only [q] at e; cases e; simp [chO_length q]
    | _ => cases e
theorem s_lst (h : PA X es (lA S cs)) : PE X (.List es pos) (lE S (.lst cs)) := imp_e (pe_lst h) fun σ H Q ⟨T, e, f, h⟩ => by
  rw [ev] at h
  refine ⟨T, e, f, out_mono (out_bd.mp h) (fun us e1 h1 vs H1 l f1 s1 => ?_) fun _ _ z => z⟩
  obtain ⟨z, ez, k⟩ := out_lift h1
  rw [chL_chO] at ez
  cases q : chO us with
  | none => rw [q] at ez; cases ez
  | some xs =>
    rw [q] at ez
    have ez : (if xs.length ≤ most then some (U.o (.lst xs)) else none) = some z := ez
    split at ez
    · rename_i hl
      cases ez
      refine ⟨?_, fun p hp => ?_⟩
      · rw [← l, ← chO_length q]
        exact Nat.le_trans hl (by rw [PySem.sizeLine_eq]; decide)
      · exact k _ _ (Frm.one (T1 := us.zip vs) f1 (fun L r => r.newL l q hp) rfl) (sid fun q => (s1.1 (by rw [qt] at q; exact q)).trans (same_new hp _))
    · cases ez
end
end Fi
/-! What stands behind a value: items, data that is looked at. -/
namespace Fi
open PySem PySem.Spec PyProof.Rows L2
def ent (xs : List PyData) (vs : List V) : List (U × V) := (xs.map U.d).zip vs
theorem fl_mem : ∀ {e : Env} {σ : L2.St} {i : Nat} {u : U} {v : V}, e[i]? = some (some u) → σ[i]? = some (some v) → (u, v) ∈ fl e σ := fun {e σ i u v} h1 h2 => (fl_take h1 h2).mem_iff.mpr List.mem_cons_self
section
variable {K : PySem.W.Frag} {fa : Nat → Addr} {D : Ban} {H H' : Hp}
theorem RL.find : ∀ {L : List (U × V)} {A : List Addr} {u : U} {v : V}, RL K fa D H L A → (u, v) ∈ L → ∃ A', UR K fa D H u v A'
  | [], _, _, _, _, m => by cases m
  | (u, v) :: L, A, u2, v2, ⟨A1, A2, e, h1, h2⟩, m => by
    rcases List.mem_cons.mp m with q | q
    · cases q; exact ⟨A1, h1⟩
    · exact RL.find h2 q
theorem RL.ent : ∀ {xs : List PyData} {vs : List V}, DqL K D H xs vs → RL K fa D H (ent xs vs) []
  | [], vs, h => rfl
  | x :: xs, vs, h => by
    unfold DqL at h
    obtain ⟨v, r, rfl, h1, h2⟩ := h
    exact ⟨[], [], rfl, ⟨rfl, h1⟩, RL.ent h2⟩
theorem flats_dq : ∀ {os : List O} {vs : List V} {A : List Addr} {xs : List PyData}, OwL K D H os vs A → flats os = some xs → DqL K D H xs vs
  | [], vs, A, xs, h, e => by
    unfold flats at e
    cases e
    unfold OwL at h
    unfold DqL
    exact h.1
  | o :: os, vs, A, xs, h, e => by
    unfold OwL at h
    obtain ⟨v, r, A1, A2, e1, e2, h1, h2⟩ := h
    unfold flats at e
    cases o with
    | leaf x =>
      cases q : flats os with
      | none => rw [q] at e; cases e
      | some ys =>
        rw [q] at e
        cases e
        unfold Ow at h1
        unfold DqL
        exact ⟨v, r, e1, h1.2, flats_dq h2 q⟩
    | _ => cases e
theorem DqL.len : ∀ {ds : List PyData} {xs : List V}, DqL K D H ds xs → xs.length = ds.length := DqL.length
end
section
variable {S : Sur} {H H' : Hp} {T : List (U × V)} {e : Env} {σ : L2.St} {u : U} {v : V}
/-- data beside -/
theorem Frm.addL {xs : List PyData} {vs : List V} (f : S.fr H T e σ) (h : ∀ A : List Addr, RL S.K S.fa (· ∈ A) H (T ++ fl e σ) A → DqL S.K (· ∈ A) H xs vs) : S.fr H (ent xs vs ++ T) e σ := by
  obtain ⟨A, n, r⟩ := f.rel
  refine ⟨⟨A, n, ?_⟩, f.len, f.has, fun i w m => ?_, f.pr⟩
  · rw [List.append_assoc]
    exact RL.append.mpr ⟨[], A, rfl, RL.ent (h A r), r⟩
  · rcases List.mem_append.mp m with m | m
    · have := (List.of_mem_zip (show (U.b i, w) ∈ (xs.map U.d).zip vs from m)).1
      rw [List.mem_map] at this
      obtain ⟨x, _, z⟩ := this
      cases z
    · exact f.bo i w m
/-- a slot's own tree -/
theorem Frm.own {i : Nat} {x : O} (f : S.fr H ((.b i, v) :: T) e σ) (h : ownAt e i = some x) : (U.o x, v) ∈ fl e σ := by
  unfold ownAt at h
  split at h
  · rename_i y hy
    cases h
    exact fl_mem hy (f.bo i v List.mem_cons_self)
  · cases h
theorem lvE {xs : List PyData} (f : S.fr H ((u, v) :: T) e σ) (h : lv e u = some xs) : ∃ a vs, v = .ref a ∧ H a = some (.lst vs) ∧ vs.length = xs.length ∧ S.fr H (ent xs vs ++ T) e σ := by
  have key : ∀ xs, S.fr H ((.d (.list xs), v) :: T) e σ → ∃ a vs, v = .ref a ∧ H a = some (.lst vs) ∧ vs.length = xs.length ∧ S.fr H (ent xs vs ++ T) e σ := fun xs f => by
    obtain ⟨D, A0, hu⟩ := f.head
    have hq : Dq S.K D H (.list xs) v := hu.2
    unfold Dq at hq
    obtain ⟨a, vs, rfl, _, ha, hl⟩ := hq
    refine ⟨a, vs, rfl, ha, hl.length, ?_⟩
    have g := Frm.addL (xs := xs) (vs := vs) f fun A r => by
      obtain ⟨A1, A2, _, h1, h2⟩ := r
      have h1 : Dq S.K (· ∈ A) H (.list xs) (.ref a) := h1.2
      unfold Dq at h1
      obtain ⟨a', vs', e1, _, ha', hl'⟩ := h1
      cases e1
      rw [ha] at ha'
      cases ha'
      exact hl'
    exact (g.perm List.perm_middle).tail
  unfold lv at h
  split at h
  · cases h; exact key _ f
  · cases h
    have f2 := f.frz
    rename_i os
    exact key _ f2
  · rename_i i
    split at h
    · rename_i os ho
      have m := f.own ho
      obtain ⟨A, n, r⟩ := f.rel
      obtain ⟨A', hu⟩ := RL.find r (List.mem_append_right _ m)
      have hu : Ow S.K (· ∈ A) H (.lst os) v A' := hu
      unfold Ow at hu
      obtain ⟨a, vs, As, rfl, _, ha, hl⟩ := hu
      refine ⟨a, vs, rfl, ha, (flats_dq hl h).length, ?_⟩
      refine ((Frm.addL (xs := xs) (vs := vs) f fun A r => ?_).perm List.perm_middle).tail
      obtain ⟨A', hu⟩ := RL.find r (List.mem_append_right _ m)
      have hu : Ow S.K (· ∈ A) H (.lst os) (.ref a) A' := hu
      unfold Ow at hu
      obtain ⟨a', vs', As, e1, _, ha', hl⟩ := hu
      cases e1
      rw [ha] at ha'
      cases ha'
      exact flats_dq hl h
    · cases h
  · cases h
theorem tvE {xs : List PyData} (f : S.fr H ((.d (.tuple xs), v) :: T) e σ) : ∃ a vs, v = .ref a ∧ SqT S.K H a vs ∧ vs.length = xs.length ∧ S.fr H (ent xs vs ++ T) e σ := by
  obtain ⟨A, n, A1, A2, rfl, h1, h2⟩ := f.rel
  have hq := h1.2
  unfold Dq at hq
  obtain ⟨a, vs, rfl, ha, hl⟩ := hq
  have e1 : A1 = [] := h1.1
  subst e1
  refine ⟨a, vs, rfl, ha, hl.length, ⟨⟨_, n, ?_⟩, f.len, f.has, fun i w m => ?_, f.pr⟩⟩
  · rw [List.append_assoc]
    exact RL.append.mpr ⟨[], _, rfl, RL.ent hl, h2⟩
  · rcases List.mem_append.mp m with m | m
    · have := (List.of_mem_zip (show (U.b i, w) ∈ (xs.map U.d).zip vs from m)).1
      rw [List.mem_map] at this
      obtain ⟨x, _, z⟩ := this
      cases z
    · exact f.bo i w (List.mem_cons_of_mem _ m)
theorem svE {xs : List PyData} (f : S.fr H ((u, v) :: T) e σ) (h : sv e u = some xs) : ∃ a vs, v = .ref a ∧ (SqL S.K H a vs ∨ SqT S.K H a vs) ∧ vs.length = xs.length ∧ S.fr H (ent xs vs ++ T) e σ := by
  unfold sv at h
  split at h
  · cases h
    obtain ⟨a, vs, h1, h2, h3⟩ := tvE f
    exact ⟨a, vs, h1, .inr h2, h3⟩
  · obtain ⟨a, vs, h1, h2, h3⟩ := lvE f h
    exact ⟨a, vs, h1, .inl (SqL.of h2), h3⟩
/-- as data, looked at -/
theorem dvE {x : PyData} (f : S.fr H ((u, v) :: T) e σ) (h : dv e u = some x) : Dq S.K B0 H x v := by
  unfold dv at h
  split at h
  · cases h
    obtain ⟨D, A, hu⟩ := f.head
    exact Dq.free hu.2
  · cases h
    obtain ⟨D, A, hu⟩ := f.head
    exact Ow.look hu
  · rename_i i
    cases q : ownAt e i with
    | none => rw [q] at h; cases h
    | some o =>
      rw [q] at h
      cases h
      have m := f.own q
      obtain ⟨A, n, r⟩ := f.rel
      obtain ⟨A', hu⟩ := RL.find r (List.mem_append_right _ m)
      exact Ow.look hu
  · cases h
/-- items at hand -/
structure FD (S : Sur) (H : Hp) (xs : List PyData) (vs : List V) (T : List (U × V)) (e : Env) (σ : L2.St) : Prop where
  rel : ∃ A : List Addr, A.Nodup ∧ DqL S.K (· ∈ A) H xs vs ∧ RL S.K S.fa (· ∈ A) H (T ++ fl e σ) A
  fr : S.fr H T e σ
theorem dats_map : ∀ xs : List PyData, dats (xs.map U.d) = some xs
  | [] => rfl
  | x :: xs => by show (dats (xs.map U.d)).map (x :: ·) = _; rw [dats_map xs]; rfl
theorem FD.of {xs : List PyData} {vs : List V} (f : S.fr H (ent xs vs ++ T) e σ) (l : vs.length = xs.length) : FD S H xs vs T e σ := by
  have r := f.rel
  rw [List.append_assoc] at r
  exact ⟨Rel.front (us := xs.map U.d) r (by simp [l]) (dats_map xs), f.drop⟩
variable {xs ys : List PyData} {vs ws : List V} {p : Addr}
theorem FD.dq (d : FD S H xs vs T e σ) : ∃ D : Ban, DqL S.K D H xs vs := by
  obtain ⟨A, _, h, _⟩ := d.rel
  exact ⟨_, h⟩
theorem FD.map (d : FD S H xs vs T e σ) (h : ∀ D : Ban, DqL S.K D H xs vs → DqL S.K D H ys ws) : FD S H ys ws T e σ := by
  obtain ⟨A, n, k, r⟩ := d.rel
  exact ⟨⟨A, n, h _ k, r⟩, d.fr⟩
theorem FD.newL (d : FD S H xs vs T e σ) (hp : H p = none) : S.fr (upd H p (.lst vs)) ((nl xs, .ref p) :: T) e σ := by
  obtain ⟨A, n, k, r⟩ := d.rel
  have f := d.fr
  refine ⟨?_, f.len, f.has, fun i w m => ?_, f.pr⟩
  · have np : p ∉ A := fun z => (r.at p z).1 hp
    have g : Go S.K (· ∈ A) (· ∈ p :: A) H (upd H p (.lst vs)) := Go.trans (Go.ban (D' := (· ∈ p :: A)) fun a ha z => by
      rcases List.mem_cons.mp z with rfl | z
      · exact absurd hp ha
      · exact z) (Go.same (same_new hp _))
    refine ⟨p :: A, List.nodup_cons.mpr ⟨np, n⟩, [p], A, rfl, ?_, RL.go g (fun a ha o e => same_new hp _ a o e) r⟩
    show Ow S.K _ _ (.lst (xs.map .leaf)) (.ref p) [p]
    unfold Ow
    exact ⟨p, vs, [], rfl, rfl, upd_same, OwL.leaf (DqL.go g _ _ k)⟩
  · rcases List.mem_cons.mp m with q | q
    · cases q
    · exact f.bo i w q
theorem FD.newT (d : FD S H xs vs T e σ) (hp : H p = none) : S.fr (upd H p (.tup vs)) ((.d (.tuple xs), .ref p) :: T) e σ := by
  obtain ⟨A, n, k, r⟩ := d.rel
  have f := d.fr
  refine ⟨?_, f.len, f.has, fun i w m => ?_, f.pr⟩
  · have g := Go.same (K := S.K) (D := (· ∈ A)) (same_new hp (.tup vs))
    refine ⟨A, n, [], A, rfl, ⟨rfl, ?_⟩, RL.go g (fun a ha o e => same_new hp _ a o e) r⟩
    unfold Dq
    exact ⟨p, vs, rfl, SqT.of upd_same, DqL.go g _ _ k⟩
  · rcases List.mem_cons.mp m with q | q
    · cases q
    · exact f.bo i w q
/-- one of them -/
theorem FD.item {i : Nat} {x : PyData} {w : V} (d : FD S H xs vs T e σ) (hx : xs[i]? = some x) (hw : vs[i]? = some w) : S.fr H ((.d x, w) :: T) e σ := by
  obtain ⟨A, n, k, r⟩ := d.rel
  have f := d.fr
  refine ⟨⟨A, n, [], A, rfl, ⟨rfl, ?_⟩, r⟩, f.len, f.has, fun i w m => ?_, f.pr⟩
  · obtain ⟨y, h1, h2⟩ := k.get hx
    rw [hw] at h1
    cases h1
    exact h2
  · rcases List.mem_cons.mp m with q | q
    · cases q
    · exact f.bo i w q
theorem lvD (f : S.fr H ((u, v) :: T) e σ) (h : lv e u = some xs) : ∃ a vs, v = .ref a ∧ H a = some (.lst vs) ∧ FD S H xs vs T e σ := by
  obtain ⟨a, vs, h1, h2, l, g⟩ := lvE f h
  exact ⟨a, vs, h1, h2, FD.of g l⟩
theorem tvD (f : S.fr H ((.d (.tuple xs), v) :: T) e σ) : ∃ a vs, v = .ref a ∧ SqT S.K H a vs ∧ FD S H xs vs T e σ := by
  obtain ⟨a, vs, h1, h2, l, g⟩ := tvE f
  exact ⟨a, vs, h1, h2, FD.of g l⟩
theorem svD (f : S.fr H ((u, v) :: T) e σ) (h : sv e u = some xs) : ∃ a vs, v = .ref a ∧ (SqL S.K H a vs ∨ SqT S.K H a vs) ∧ FD S H xs vs T e σ := by
  obtain ⟨a, vs, h1, h2, l, g⟩ := svE f h
  exact ⟨a, vs, h1, h2, FD.of g l⟩
/-- two lists -/
theorem lvD2 {u2 : U} {v2 : V} (f : S.fr H ((u2, v2) :: (u, v) :: T) e σ) (h : lv e u = some xs) (h2 : lv e u2 = some ys) : ∃ a b vs ws, v = .ref a ∧ v2 = .ref b ∧ H a = some (.lst vs) ∧ H b = some (.lst ws) ∧ vs.length = xs.length ∧ ws.length = ys.length ∧ FD S H (xs ++ ys) (vs ++ ws) T e σ := by
  obtain ⟨b, ws, e1, hb, l2, g⟩ := lvE f h2
  obtain ⟨a, vs, e2, ha, l1, g2⟩ := lvE (g.perm List.perm_middle) h
  refine ⟨a, b, vs, ws, e2, e1, ha, hb, l1, l2, FD.of ?_ (by simp [l1, l2])⟩
  have : ent (xs ++ ys) (vs ++ ws) = ent xs vs ++ ent ys ws := by
    unfold ent
    rw [List.map_append, List.zip_append (by simp [l1])]
  rw [this, List.append_assoc]
  exact g2
theorem tvD2 {v2 : V} (f : S.fr H ((.d (.tuple ys), v2) :: (.d (.tuple xs), v) :: T) e σ) : ∃ a b vs ws, v = .ref a ∧ v2 = .ref b ∧ SqT S.K H a vs ∧ SqT S.K H b ws ∧ vs.length = xs.length ∧ ws.length = ys.length ∧ FD S H (xs ++ ys) (vs ++ ws) T e σ := by
  obtain ⟨b, ws, e1, hb, l2, g⟩ := tvE f
  obtain ⟨a, vs, e2, ha, l1, g2⟩ := tvE (g.perm List.perm_middle)
  refine ⟨a, b, vs, ws, e2, e1, ha, hb, l1, l2, FD.of ?_ (by simp [l1, l2])⟩
  have : ent (xs ++ ys) (vs ++ ws) = ent xs vs ++ ent ys ws := by
    unfold ent
    rw [List.map_append, List.zip_append (by simp [l1])]
  rw [this, List.append_assoc]
  exact g2
end
end Fi
/-! Operations, items, slices. -/
namespace Fi
open PySem PySem.Spec PyProof.Rows L2
/-! ### comparisons with what is empty -/
def rNilL (K : PySem.W.Frag) (neg : Bool) : R2 := fun x y H Q => ∃ a b xs, x = .ref a ∧ y = .ref b ∧ SqL K H a xs ∧ SqL K H b [] ∧ Q (.bl (if neg then !xs.isEmpty else xs.isEmpty)) H
def rNilT (K : PySem.W.Frag) (neg : Bool) : R2 := fun x y H Q => ∃ a b xs, x = .ref a ∧ y = .ref b ∧ SqT K H a xs ∧ SqT K H b [] ∧ Q (.bl (if neg then !xs.isEmpty else xs.isEmpty)) H
theorem vals_nil {us : List Value} (r : Vals [] us) : us = [] := by cases r; rfl
section
variable {X : Cx}
theorem op_eqNilL (hu : X.A.units + 1 < cLine) : OpR X (compareOp .Eq) (rNilL X.K false) := by
  intro pins s σ H x y v u Q I rx ry h
  obtain ⟨a, b, xs, rfl, rfl, ha, hb, q⟩ := h
  cases rx; cases ry
  obtain ⟨its, r1, p1, _⟩ := I.list ha
  obtain ⟨its2, r2, p2, _⟩ := I.list hb
  have e2 := vals_nil r2
  subst e2
  cases xs with
  | nil =>
    have e1 := vals_nil r1
    subst e1
    exact SeqAt.RcAt.lists (e := fun _ => true) p1.isList p2.isList rfl (by omega) (fun j h1 h2 => absurd h1 (by simp)) X.prog X.w _ _ ⟨.bl _, H, I, rfl, q⟩
  | cons z zs =>
    have hl := r1.length
    exact SeqAt.RcAt.lists_lengths p1.isList p2.isList (by simp [← hl]) (by omega) X.prog X.w _ _ ⟨.bl _, H, I, rfl, q⟩
theorem op_neNilL (hu : X.A.units + 1 < cLine) : OpR X (compareOp .NotEq) (rNilL X.K true) := by
  intro pins s σ H x y v u Q I rx ry h
  obtain ⟨a, b, xs, rfl, rfl, ha, hb, q⟩ := h
  cases rx; cases ry
  obtain ⟨its, r1, p1, _⟩ := I.list ha
  obtain ⟨its2, r2, p2, _⟩ := I.list hb
  have e2 := vals_nil r2
  subst e2
  cases xs with
  | nil =>
    have e1 := vals_nil r1
    subst e1
    exact SeqAt.RcNeAt.lists (e := fun _ => true) p1.isList p2.isList rfl (by omega) (fun j h1 h2 => absurd h1 (by simp)) X.prog X.w _ _ ⟨.bl _, H, I, rfl, q⟩
  | cons z zs =>
    have hl := r1.length
    exact SeqAt.RcNeAt.lists_lengths p1.isList p2.isList (by simp [← hl]) (by omega) X.prog X.w _ _ ⟨.bl _, H, I, rfl, q⟩
theorem op_eqNilT (hu : X.A.units + 1 < cLine) : OpR X (compareOp .Eq) (rNilT X.K false) := by
  intro pins s σ H x y v u Q I rx ry h
  obtain ⟨a, b, xs, rfl, rfl, ha, hb, q⟩ := h
  cases rx; cases ry
  obtain ⟨its, r1, p1, _⟩ := I.tuple ha
  obtain ⟨its2, r2, p2, _⟩ := I.tuple hb
  have e2 := vals_nil r2
  subst e2
  have hl := r1.length
  refine SeqAt.RcAt.tuples (e := fun _ => true) p1 p2 (by omega) (fun j h1 h2 => absurd h2 (by simp)) X.prog X.w _ _ ⟨.bl _, H, I, rfl, ?_⟩
  cases xs with
  | nil =>
    have e1 := vals_nil r1
    subst e1
    exact q
  | cons z zs =>
    cases its with
    | nil => cases hl
    | cons i is =>
      have e : ((List.range (min (i :: is).toArray.size ([] : List Value).toArray.size)).all (fun _ => true) && (i :: is).toArray.size == ([] : List Value).toArray.size) = false := by simp
      rw [e]
      exact q
theorem op_neNilT (hu : X.A.units + 1 < cLine) : OpR X (compareOp .NotEq) (rNilT X.K true) := by
  intro pins s σ H x y v u Q I rx ry h
  obtain ⟨a, b, xs, rfl, rfl, ha, hb, q⟩ := h
  cases rx; cases ry
  obtain ⟨its, r1, p1, _⟩ := I.tuple ha
  obtain ⟨its2, r2, p2, _⟩ := I.tuple hb
  have e2 := vals_nil r2
  subst e2
  have hl := r1.length
  refine SeqAt.RcNeAt.tuples (e := fun _ => true) p1 p2 (by omega) (fun j h1 h2 => absurd h2 (by simp)) X.prog X.w _ _ ⟨.bl _, H, I, rfl, ?_⟩
  cases xs with
  | nil =>
    have e1 := vals_nil r1
    subst e1
    exact q
  | cons z zs =>
    cases its with
    | nil => cases hl
    | cons i is =>
      have e : (!((List.range (min (i :: is).toArray.size ([] : List Value).toArray.size)).all (fun _ => true) && (i :: is).toArray.size == ([] : List Value).toArray.size)) = true := by simp
      rw [e]
      exact q
end
theorem sz_of {n : Nat} (h : n ≤ most) : n ≤ sizeLine := Nat.le_trans h (by rw [PySem.sizeLine_eq]; decide)
theorem sz_lt {n : Nat} (h : n ≤ most) : n < sizeLine := Nat.lt_of_le_of_lt h (by rw [PySem.sizeLine_eq]; decide)
section
variable {S : Sur} {H H' : Hp} {T : List (U × V)} {e : Env} {σ : L2.St} {u : U} {v : V} {xs ys : List PyData}
theorem DqL.rep {K : PySem.W.Frag} {D : Ban} {ds : List PyData} {vs : List V} (h : DqL K D H ds vs) : ∀ n : Nat, DqL K D H (repL n ds) (List.replicate n vs).flatten
  | 0 => by unfold repL; exact DqL.nil
  | n + 1 => by
    unfold repL
    rw [List.replicate_succ, List.replicate_succ, List.flatten_cons, List.flatten_cons]
    exact h.append (DqL.rep h n)
/-! ### + -/
def rAdd (K : PySem.W.Frag) : R2 := fun x y H Q => rI0 (fun i j => .int (i + j)) x y H Q ∨ (∃ i j, x = .str i ∧ y = .str j ∧ i.length + j.length ≤ sizeLine ∧ Q (.str (i ++ j)) H) ∨ rCatA K x y H Q ∨ rCat x y H Q
theorem or_add {X : Cx} : OpR X (binaryOp .Add) (rAdd X.K) := OpR.or op_add (OpR.or op_add_str (OpR.or op_catA op_cat))
theorem o_add : OpS S (rAdd S.K) (binU .add) := fun H T e σ x y z v1 v2 Q f h k => by
  unfold binU addU at h
  simp only at h
  split at h
  · cases h
    have e2 := f.dint
    have e1 := f.tail.dint
    subst e1 e2
    exact .inl ⟨_, _, rfl, rfl, k _ H f.tail.tail.int (Same.refl H)⟩
  · split at h
    · rename_i hl
      cases h
      have e2 := f.dstr
      have e1 := f.tail.dstr
      subst e1 e2
      exact .inr (.inl ⟨_, _, rfl, rfl, sz_of hl, k _ H f.tail.tail.str (Same.refl H)⟩)
    · cases h
  · split at h
    · rename_i xs ys hl
      cases h
      obtain ⟨a, b, vs, ws, rfl, rfl, ha, hb, l1, l2, d⟩ := tvD2 f
      refine .inr (.inr (.inl ⟨a, b, vs, ws, rfl, rfl, ha, hb, sz_of (by rw [l1, l2]; exact hl), fun e => ?_, fun _ e => ?_, fun _ _ p hp => k _ _ (d.newT hp) (same_new hp _)⟩))
      · subst e
        have : xs = [] := by simpa using l1.symm
        subst this
        exact k _ H (f.swap.tail) (Same.refl H)
      · subst e
        have : ys = [] := by simpa using l2.symm
        subst this
        rw [List.append_nil] at k
        exact k _ H f.tail (Same.refl H)
    · cases h
  · split at h
    · rename_i a b ha hb
      split at h
      · rename_i hl
        cases h
        obtain ⟨p, q, vs, ws, rfl, rfl, hp, hq, l1, l2, d⟩ := lvD2 f ha hb
        exact .inr (.inr (.inr ⟨p, q, vs, ws, rfl, rfl, hp, hq, sz_of (by rw [l1, l2]; exact hl), fun p hp => k _ _ (d.newL hp) (same_new hp _)⟩))
      · cases h
    · cases h
/-! ### numbers -/
theorem iOp_get {f : Int → Int → Option Int} {x y z : U} (h : iOp f x y = some z) : ∃ i j r, x = .d (.int i) ∧ y = .d (.int j) ∧ f i j = some r ∧ z = .d (.int r) := by
  unfold iOp at h
  split at h
  · rename_i i j
    cases q : f i j with
    | none => rw [q] at h; cases h
    | some r => rw [q] at h; cases h; exact ⟨i, j, r, rfl, rfl, q, rfl⟩
  · cases h
theorem o_int {bop : Bop} {f : Int → Int → Option Int} {C : Int → Int → Prop} {g : Int → Int → V} (hb : ∀ e x y, binU bop e x y = iOp f x y) (hf : ∀ i j r, f i j = some r → C i j ∧ g i j = .int r) : OpS S (rI C g) (binU bop) := fun H T e σ x y z v1 v2 Q fr h k => by
  rw [hb] at h
  obtain ⟨i, j, r, rfl, rfl, er, rfl⟩ := iOp_get h
  have e2 := fr.dint
  have e1 := fr.tail.dint
  subst e1 e2
  obtain ⟨c, eg⟩ := hf i j r er
  refine ⟨i, j, rfl, rfl, c, ?_⟩
  rw [eg]
  exact k _ H fr.tail.tail.int (Same.refl H)
theorem OpR.toC {X : Cx} {f : Value → Value → Sem Value} {g : Int → Int → V} (h : OpR X f (rI0 g)) : OpR X f (rI (fun _ _ => True) g) := fun pins s σ H x y v u Q I rx ry ⟨i, j, e1, e2, _, q⟩ => h pins s σ H x y v u Q I rx ry ⟨i, j, e1, e2, q⟩
theorem o_sub : OpS S (rI (fun _ _ => True) fun i j => .int (i - j)) (binU .sub) := o_int (f := fun i j => some (i - j)) (fun _ _ _ => rfl) fun i j r h => by cases h; exact ⟨trivial, rfl⟩
theorem o_mod : OpS S (rI (fun _ j => 0 < j) fun i j => .int (i % j)) (binU .mod) := o_int (f := fun i j => if 0 < j then some (i % j) else none) (fun _ _ _ => rfl) fun i j r h => by
  split at h
  · rename_i c; cases h; exact ⟨c, rfl⟩
  · cases h
theorem o_fdiv : OpS S (rI CDiv fun i j => .int (i / j)) (binU .fdiv) := o_int (f := fun i j => if 0 < j ∧ j < 1073741824 then some (i / j) else none) (fun _ _ _ => rfl) fun i j r h => by
  split at h
  · rename_i c; cases h; exact ⟨c, rfl⟩
  · cases h
theorem o_pow : OpS S (rI CPow fun i j => .int (i ^ j.toNat)) (binU .pow) := o_int (f := fun i j => if 0 ≤ j ∧ j ≤ 1000000 ∧ i.natAbs < 2 ^ 64 then some (i ^ j.toNat) else none) (fun _ _ _ => rfl) fun i j r h => by
  split at h
  · rename_i c; cases h; exact ⟨c, rfl⟩
  · cases h
/-! ### comparisons -/
theorem cmpI_get {f : Int → Int → Bool} {x y z : U} (h : cmpI f x y = some z) : ∃ i j, x = .d (.int i) ∧ y = .d (.int j) ∧ z = .d (.bool (f i j)) := by
  unfold cmpI at h
  split at h
  · cases h; exact ⟨_, _, rfl, rfl, rfl⟩
  · cases h
theorem o_cmpI {cop : Cop} {f : Int → Int → Bool} (hb : ∀ e x y, cmpU cop e x y = cmpI f x y) : OpS S (rI0 fun i j => .bl (f i j)) (cmpU cop) := fun H T e σ x y z v1 v2 Q fr h k => by
  rw [hb] at h
  obtain ⟨i, j, rfl, rfl, rfl⟩ := cmpI_get h
  have e2 := fr.dint
  have e1 := fr.tail.dint
  subst e1 e2
  exact ⟨i, j, rfl, rfl, k _ H fr.tail.tail.bl (Same.refl H)⟩
theorem o_lt : OpS S (rI0 fun i j => .bl (decide (i < j))) (cmpU .lt) := o_cmpI fun _ _ _ => rfl
theorem o_le : OpS S (rI0 fun i j => .bl (decide (i ≤ j))) (cmpU .le) := o_cmpI fun _ _ _ => rfl
theorem o_gt : OpS S (rI0 fun i j => .bl (decide (j < i))) (cmpU .gt) := o_cmpI fun _ _ _ => rfl
theorem o_ge : OpS S (rI0 fun i j => .bl (decide (j ≤ i))) (cmpU .ge) := o_cmpI fun _ _ _ => rfl
theorem cmp_fre {cop : Cop} {x y : U} {e : Env} {z : U} (h : cmpU cop e x y = some z) (hc : cop = .le ∨ cop = .lt) : y.fre ∧ isB y = false := by
  rcases hc with rfl | rfl
  all_goals
    obtain ⟨i, j, rfl, rfl, rfl⟩ := cmpI_get (by unfold cmpU at h; exact h)
    exact ⟨trivial, rfl⟩
def rEqQ (K : PySem.W.Frag) (f : PyData → PyData → Option Bool) : R2 := fun x y H Q => ∃ a b r, Dq K B0 H a x ∧ Dq K B0 H b y ∧ f a b = some r ∧ Q (.bl r) H
theorem o_cmpD {cop : Cop} {f : PyData → PyData → Option Bool} (hb : ∀ e x y, cmpU cop e x y = cmpD e f x y) : OpS S (rEqQ S.K f) (cmpU cop) := fun H T e σ x y z v1 v2 Q fr h k => by
  rw [hb] at h
  unfold cmpD at h
  split at h
  · rename_i a b ha hb
    cases q : f a b with
    | none => rw [q] at h; cases h
    | some r =>
      rw [q] at h
      cases h
      exact ⟨a, b, r, dvE fr.tail ha, dvE fr hb, q, k _ H fr.tail.tail.bl (Same.refl H)⟩
  · cases h
theorem o_eq : OpS S (rEqQ S.K eqF) (cmpU .eq) := o_cmpD fun _ _ _ => rfl
theorem o_ne : OpS S (rEqQ S.K neF) (cmpU .ne) := o_cmpD fun _ _ _ => rfl
theorem sysNone {X : Cx} {pins : List (Addr × Obj)} {σ : L2.St} {H : Hp} {s : Shared} (I : Inv X pins σ H s) (hK : (X.K.lookup sysModules).isSome = true) : H sysModules = none := by
  obtain ⟨o, ho⟩ := Option.isSome_iff_exists.mp hK
  exact (I.bs _ _ (I.ok.mod.kin _ _ ho)).2
theorem nilL {K : PySem.W.Frag} {H : Hp} {ds : List PyData} {v : V} (h : Dq K B0 H (.list ds) v) : ∃ a xs, v = .ref a ∧ SqL K H a xs ∧ xs.isEmpty = ds.isEmpty := by
  unfold Dq at h
  obtain ⟨a, xs, e, _, ha, hl⟩ := h
  refine ⟨a, xs, e, .inl (.inl ha), ?_⟩
  have := hl.length
  cases ds <;> cases xs <;> first | rfl | cases this
theorem nilT {K : PySem.W.Frag} {H : Hp} {ds : List PyData} {v : V} (h : Dq K B0 H (.tuple ds) v) : ∃ a xs, v = .ref a ∧ SqT K H a xs ∧ xs.isEmpty = ds.isEmpty := by
  unfold Dq at h
  obtain ⟨a, xs, e, ha, hl⟩ := h
  refine ⟨a, xs, e, ha, ?_⟩
  have := hl.length
  cases ds <;> cases xs <;> first | rfl | cases this
theorem isE {α : Type} {l : List α} (h : l.isEmpty = ([] : List PyData).isEmpty) : l = [] := by cases l <;> first | rfl | cases h
theorem or_eq {X : Cx} (hK : (X.K.lookup sysModules).isSome = true) (hu : X.A.units + 65 < cLine) : OpR X (compareOp .Eq) (rEqQ X.K eqF) := by
  intro pins s σ H x y v u Q I rx ry h
  obtain ⟨a, b, r, ha, hb, e, q⟩ := h
  unfold eqF at e
  split at e
  · rename_i x' y'
    cases e
    unfold Dq at ha hb
    subst ha hb
    refine op_eq pins s σ H _ _ v u Q I rx ry ⟨rfl, ?_⟩
    have e2 : decide (V.str x' = V.str y') = decide (x' = y') := decide_eq_decide.mpr ⟨fun e => V.str.inj e, fun e => by rw [e]⟩
    rw [e2]
    exact q
  · cases e
    obtain ⟨p, xs, rfl, h1, h2⟩ := nilL ha
    obtain ⟨p2, ys, rfl, h3, h4⟩ := nilL hb
    have := isE h4
    subst this
    exact op_eqNilL (by omega) pins s σ H _ _ v u Q I rx ry ⟨p, p2, xs, rfl, rfl, h1, h3, by rw [if_neg (by decide), h2]; exact q⟩
  · cases e
    obtain ⟨p, xs, rfl, h1, h2⟩ := nilT ha
    obtain ⟨p2, ys, rfl, h3, h4⟩ := nilT hb
    have := isE h4
    subst this
    exact op_eqNilT (by omega) pins s σ H _ _ v u Q I rx ry ⟨p, p2, xs, rfl, rfl, h1, h3, by rw [if_neg (by decide), h2]; exact q⟩
  · cases e
    unfold Dq at hb
    subst hb
    exact op_eqS (by omega) pins s σ H _ _ v u Q I rx ry ⟨B0, a, _, ha, rfl, q⟩
  · split at e
    · rename_i hc
      simp only [okD, Bool.and_eq_true, decide_eq_true_eq] at hc
      cases e
      obtain ⟨as, r1, _⟩ := Dq.reads I (sysNone I hK) a _ _ ha rx
      obtain ⟨bs, r2, _⟩ := Dq.reads I (sysNone I hK) b _ _ hb ry
      have hm : min (PyData.depth a) (PyData.depth b) ≤ 64 := Nat.le_trans (Nat.min_le_left _ _) hc.1.2
      exact SeqAt.compareEq_reads r1 r2 hc.1.1 hc.2 (by omega) ⟨.bl _, H, I, rfl, q⟩
    · cases e
theorem or_ne {X : Cx} (hK : (X.K.lookup sysModules).isSome = true) (hu : X.A.units + 65 < cLine) : OpR X (compareOp .NotEq) (rEqQ X.K neF) := by
  intro pins s σ H x y v u Q I rx ry h
  obtain ⟨a, b, r, ha, hb, e, q⟩ := h
  unfold neF at e
  split at e
  · rename_i x' y'
    cases e
    unfold Dq at ha hb
    subst ha hb
    refine op_ne pins s σ H _ _ v u Q I rx ry ⟨rfl, ?_⟩
    have e2 : decide (V.str x' = V.str y') = decide (x' = y') := decide_eq_decide.mpr ⟨fun e => V.str.inj e, fun e => by rw [e]⟩
    rw [e2]
    exact q
  · cases e
    obtain ⟨p, xs, rfl, h1, h2⟩ := nilL ha
    obtain ⟨p2, ys, rfl, h3, h4⟩ := nilL hb
    have := isE h4
    subst this
    exact op_neNilL (by omega) pins s σ H _ _ v u Q I rx ry ⟨p, p2, xs, rfl, rfl, h1, h3, by rw [if_pos rfl, h2]; exact q⟩
  · cases e
    obtain ⟨p, xs, rfl, h1, h2⟩ := nilT ha
    obtain ⟨p2, ys, rfl, h3, h4⟩ := nilT hb
    have := isE h4
    subst this
    exact op_neNilT (by omega) pins s σ H _ _ v u Q I rx ry ⟨p, p2, xs, rfl, rfl, h1, h3, by rw [if_pos rfl, h2]; exact q⟩
  · split at e
    · rename_i hc
      simp only [okD, Bool.and_eq_true, decide_eq_true_eq] at hc
      cases e
      obtain ⟨as, r1, _⟩ := Dq.reads I (sysNone I hK) a _ _ ha rx
      obtain ⟨bs, r2, _⟩ := Dq.reads I (sysNone I hK) b _ _ hb ry
      have hm : min (PyData.depth a) (PyData.depth b) ≤ 64 := Nat.le_trans (Nat.min_le_left _ _) hc.1.2
      exact SeqAt.compareNe_reads r1 r2 hc.1.1 hc.2 (by omega) ⟨.bl _, H, I, rfl, q⟩
    · cases e
/-! ### is None -/
theorem dq_non {K : PySem.W.Frag} {D : Ban} {H : Hp} {x : PyData} {v : V} (h : Dq K D H x v) : decide (v = .non) = isNon x := by
  cases x with
  | none => unfold Dq at h; subst h; rfl
  | bool b => unfold Dq at h; subst h; rfl
  | int b => unfold Dq at h; subst h; rfl
  | str b => unfold Dq at h; subst h; rfl
  | list b => unfold Dq at h; obtain ⟨a, xs, rfl, _⟩ := h; rfl
  | tuple b => unfold Dq at h; obtain ⟨a, xs, rfl, _⟩ := h; rfl
  | dict b => unfold Dq at h; obtain ⟨a, rfl, _⟩ := h; rfl
theorem o_isn : OpS S (fun x y H Q => y = .non ∧ Q (.bl (decide (x = .non))) H) (cmpU .isn) := fun H T e σ x y z v1 v2 Q fr h k => by
  unfold cmpU at h
  simp only at h
  split at h
  · cases q : dv e x with
    | none => rw [q] at h; cases h
    | some a =>
      rw [q] at h
      cases h
      refine ⟨fr.dnon, ?_⟩
      rw [dq_non (dvE fr.tail q)]
      exact k _ H fr.tail.tail.bl (Same.refl H)
  · cases h
theorem o_nisn : OpS S (fun x y H Q => y = .non ∧ Q (.bl (!decide (x = .non))) H) (cmpU .nisn) := fun H T e σ x y z v1 v2 Q fr h k => by
  unfold cmpU at h
  simp only at h
  split at h
  · cases q : dv e x with
    | none => rw [q] at h; cases h
    | some a =>
      rw [q] at h
      cases h
      refine ⟨fr.dnon, ?_⟩
      rw [dq_non (dvE fr.tail q)]
      exact k _ H fr.tail.tail.bl (Same.refl H)
  · cases h
end
end Fi
/-! Dicts that are looked at, items, in, slices, isinstance. -/
namespace Fi
open PySem PySem.Spec PyProof.Rows L2
section
variable {S : Sur} {H H' : Hp} {T : List (U × V)} {e : Env} {σ : L2.St} {u : U} {v : V} {xs ys : List PyData}
theorem keyOf_keyD (k : Key) : keyOf (keyD k) = some k := by cases k <;> rfl
theorem keyD_of {x : PyData} {k : Key} (h : keyOf x = some k) : x = keyD k := by
  cases x with
  | int i => cases h; rfl
  | str i => cases h; rfl
  | _ => cases h
theorem DqK.split {K : PySem.W.Frag} {D : Ban} : ∀ {kvs : List (PyData × PyData)} {ws : List (Key × V)}, DqK K D H kvs ws → kvs.map (·.1) = ws.map (fun p => keyD p.1) ∧ DqL K D H (kvs.map (·.2)) (ws.map (·.2))
  | [], ws, h => by unfold DqK at h; subst h; exact ⟨rfl, DqL.nil⟩
  | (k, d) :: kvs, ws, h => by
    unfold DqK at h
    obtain ⟨j, x, r, rfl, rfl, h1, h2⟩ := h
    obtain ⟨i1, i2⟩ := DqK.split h2
    exact ⟨by rw [List.map_cons, List.map_cons, i1], DqL.cons h1 i2⟩
theorem OwK.split {K : PySem.W.Frag} {D : Ban} : ∀ {kvs : List (Key × O)} {ws : List (Key × V)} {A : List Addr}, OwK K D H kvs ws A → (frzK kvs).map (·.1) = ws.map (fun p => keyD p.1) ∧ OwL K D H (kvs.map (·.2)) (ws.map (·.2)) A
  | [], ws, A, h => by unfold OwK at h; obtain ⟨rfl, rfl⟩ := h; exact ⟨rfl, by unfold OwL; exact ⟨rfl, rfl⟩⟩
  | (k, d) :: kvs, ws, A, h => by
    unfold OwK at h
    obtain ⟨x, r, A1, A2, rfl, rfl, h1, h2⟩ := h
    obtain ⟨i1, i2⟩ := OwK.split h2
    refine ⟨?_, ?_⟩
    · show (keyD k) :: (frzK kvs).map (·.1) = _
      rw [i1]; rfl
    · show OwL K D H (d :: kvs.map (·.2)) (x :: r.map (·.2)) _
      unfold OwL
      exact ⟨x, _, A1, A2, rfl, rfl, h1, i2⟩
theorem flats_frz : ∀ {kvs : List (Key × O)} {xs : List PyData}, flats (kvs.map (·.2)) = some xs → xs = (frzK kvs).map (·.2)
  | [], xs, h => by cases h; rfl
  | (k, o) :: kvs, xs, h => by
    have h : (match flat1 o, flats (kvs.map (·.2)) with
      | some y, some ys => some (y :: ys)
      | _, _ => none) = some xs := h
    cases o with
    | leaf x =>
      cases q : flats (kvs.map (·.2)) with
      | none => rw [q] at h; cases h
      | some ys =>
        rw [q] at h
        cases h
        show x :: ys = x :: (frzK kvs).map (·.2)
        rw [flats_frz q]
    | _ => cases h
/-- a dict that is looked at: its entries -/
theorem dcD {kvs : List (PyData × PyData)} (f : S.fr H ((u, v) :: T) e σ) (h : dctv e u = some kvs) : ∃ a ws, v = .ref a ∧ H a = some (.dK ws) ∧ kvs.map (·.1) = ws.map (fun p => keyD p.1) ∧ FD S H (kvs.map (·.2)) (ws.map (·.2)) T e σ := by
  have key : ∀ kvs, S.fr H ((.d (.dict kvs), v) :: T) e σ → allK kvs = true → ∃ a ws, v = .ref a ∧ H a = some (.dK ws) ∧ kvs.map (·.1) = ws.map (fun p => keyD p.1) ∧ FD S H (kvs.map (·.2)) (ws.map (·.2)) T e σ := fun kvs f hk => by
    obtain ⟨A, n, A1, A2, rfl, h1, h2⟩ := f.rel
    have hq := h1.2
    have e1 : A1 = [] := h1.1
    subst e1
    unfold Dq at hq
    obtain ⟨a, rfl, _, hq⟩ := hq
    rcases hq with ⟨ws, ha, hl⟩ | ⟨ws, ne, ha, hl⟩
    · obtain ⟨s1, s2⟩ := hl.split
      exact ⟨a, ws, rfl, ha, s1, ⟨⟨_, n, s2, h2⟩, f.tail⟩⟩
    · exfalso
      cases kvs with
      | nil => unfold DqT at hl; exact ne hl
      | cons p kvs =>
        obtain ⟨k, d⟩ := p
        unfold DqT at hl
        obtain ⟨j, x, r, _, ek, _⟩ := hl
        unfold allK at hk
        rw [ek] at hk
        cases hk
  unfold dctv at h
  split at h
  · split at h
    · rename_i hk; cases h; exact key _ f hk
    · cases h
  · rename_i i
    split at h
    · rename_i os ho
      cases qf : flats (os.map (·.2)) with
      | none => rw [qf] at h; cases h
      | some zs =>
        rw [qf] at h
        cases h
        have m := f.own ho
        obtain ⟨A, n, r⟩ := f.rel
        obtain ⟨A', hu⟩ := RL.find r (List.mem_append_right _ m)
        have hu : Ow S.K (· ∈ A) H (.dic os) v A' := hu
        unfold Ow at hu
        obtain ⟨a, ws, As, rfl, _, _, ha, hl⟩ := hu
        obtain ⟨s1, s2⟩ := hl.split
        have s3 := flats_dq s2 qf
        rw [flats_frz qf] at s3
        obtain ⟨A1, A2, eA, h1, h2⟩ := r
        have e1 : A1 = [] := h1
        subst e1
        have eA : A = A2 := eA
        subst eA
        exact ⟨a, ws, rfl, ha, s1, ⟨⟨_, n, s3, h2⟩, f.tail⟩⟩
    · cases h
  · cases h
    refine key _ f.frz ?_
    rename_i os
    have : ∀ os : List (Key × O), allK (frzK os) = true := fun os => by
      induction os with
      | nil => rfl
      | cons p os ih =>
        obtain ⟨k, o⟩ := p
        show ((keyOf (keyD k)).isSome && allK (frzK os)) = true
        rw [keyOf_keyD, ih]; rfl
    exact this os
  · cases h
theorem lookD_cons (k : PyData) {key a : Key} (ek : keyOf k = some key) (x : PyData) (r : List (PyData × PyData)) : lookD k ((keyD a, x) :: r) = if a = key then some x else lookD k r := by
  show (if (match keyOf (keyD a), keyOf k with
    | some a, some b => decide (a = b)
    | _, _ => match keyT (keyD a), keyT k with
      | some a, some b => decide (a = b)
      | _, _ => false) = true then some x else lookD k r) = _
  rw [keyOf_keyD, ek]
  show (if decide (a = key) = true then some x else lookD k r) = _
  by_cases q : a = key
  · rw [if_pos (decide_eq_true q), if_pos q]
  · rw [if_neg (by rw [decide_eq_false q]; decide), if_neg q]
theorem look_val {k : PyData} {key : Key} (ek : keyOf k = some key) : ∀ {kvs : List (PyData × PyData)} {ws : List (Key × V)}, kvs.map (·.1) = ws.map (fun p => keyD p.1) → (kvs.map (·.2)).length = (ws.map (·.2)).length →
    (∃ (i : Nat) (d : PyData) (w : V), lookD k kvs = some d ∧ (kvs.map (·.2))[i]? = some d ∧ (ws.map (·.2))[i]? = some w ∧ valV ws key = some w) ∨ (lookD k kvs = none ∧ valV ws key = none)
  | [], [], _, _ => .inr ⟨rfl, rfl⟩
  | [], _ :: _, h, _ => by cases h
  | _ :: _, [], h, _ => by cases h
  | (k1, x) :: kvs, (a, w) :: ws, h, l => by
    rw [List.map_cons, List.map_cons] at h
    injection h with h1 h2
    have h1 : k1 = keyD a := h1
    subst h1
    rw [lookD_cons k ek]
    by_cases q : a = key
    · refine .inl ⟨0, x, w, by rw [if_pos q], rfl, rfl, ?_⟩
      unfold valV
      rw [List.find?_cons, show decide ((a, w).1 = key) = true from decide_eq_true q]
      rfl
    · rw [if_neg q]
      have ev : valV ((a, w) :: ws) key = valV ws key := by
        unfold valV
        rw [List.find?_cons, show decide ((a, w).1 = key) = false from decide_eq_false q]
      rw [ev]
      rcases look_val ek h2 (by simpa using l) with ⟨i, d, w', e1, e2, e3, e4⟩ | e
      · exact .inl ⟨i + 1, d, w', e1, e2, e3, e4⟩
      · exact .inr e
/-! ### in -/
theorem dqL_allS {K : PySem.W.Frag} {D : Ban} {H : Hp} : ∀ {xs : List PyData} {vs : List V} {zs : List Str}, DqL K D H xs vs → allS xs = some zs → vs = zs.map V.str
  | [], _, _, h, e => by unfold DqL at h; cases e; exact h
  | x :: xs, vs, zs, h, e => by
    unfold DqL at h
    obtain ⟨v, r, rfl, h1, h2⟩ := h
    cases x with
    | str b =>
      cases q : allS xs with
      | none => unfold allS at e; rw [q] at e; cases e
      | some cs =>
        unfold allS at e
        rw [q] at e
        cases e
        unfold Dq at h1
        subst h1
        rw [dqL_allS h2 q]
        rfl
    | _ => cases e
theorem one_sign {w : Str} (h : w.cps.size = 1) : w = ⟨#[w.cps[0]?.getD 0]⟩ := by
  obtain ⟨⟨l⟩⟩ := w
  match l, h with
  | [c], _ => rfl
def rInQ (K : PySem.W.Frag) (neg : Bool) : R2 := fun x y H Q =>
  (∃ (c : Nat) (z : Str), x = .str ⟨#[c]⟩ ∧ y = .str z ∧ Q (.bl (neg != decide (c ∈ z.cps.toList))) H) ∨
  (∃ (d : PyData) (p : Addr) (zs : List Str), Dq K B0 H d x ∧ y = .ref p ∧ SqT K H p (zs.map V.str) ∧ Q (.bl (neg != anyS zs d)) H) ∨
  (∃ (w : Str) (p : Addr) (zs : List Str), x = .str w ∧ y = .ref p ∧ SqL K H p (zs.map V.str) ∧ Q (.bl (neg != zs.any fun z => decide (w = z))) H) ∨
  (∃ (d : PyData) (ys : List PyData), Dq K B0 H d x ∧ (Dq K B0 H (.list ys) y ∨ Dq K B0 H (.tuple ys) y) ∧ (PyData.canLayAll0 ys && okD d) = true ∧ Q (.bl (neg != ys.any fun y => PyData.eqv y d)) H) ∨
  (∃ a o, y = .ref a ∧ DGet H a x o ∧ Q (.bl (neg != o.isSome)) H)
theorem inV_str (w : Str) (zs : List Str) : inV (.str w) (zs.map V.str) = zs.any fun z => decide (w = z) := by
  unfold inV
  rw [List.any_map]
  congr 1
  funext z
  show eqV (.str z) (.str w) = decide (w = z)
  unfold eqV
  first
    | (rw [Bool.beq_eq_decide_eq]; exact decide_eq_decide.mpr ⟨fun e => e.symm, fun e => e.symm⟩)
    | exact decide_eq_decide.mpr ⟨fun e => e.symm, fun e => e.symm⟩
theorem or_in {X : Cx} (hK : (X.K.lookup sysModules).isSome = true) (hu : X.A.units + 66 < cLine) : OpR X (compareOp .In) (rInQ X.K false) := by
  intro pins s σ H x y v u Q I rx ry h
  simp only [rInQ, Bool.false_bne] at h
  rcases h with ⟨c, z, rfl, rfl, q⟩ | ⟨d, p, zs, hd, rfl, hp, q⟩ | ⟨w, p, zs, rfl, rfl, hp, q⟩ | ⟨d, ys, hd, hy, hc, q⟩ | ⟨a, o, rfl, g, q⟩
  · exact op_in_sign pins s σ H _ _ v u Q I rx ry ⟨c, z, rfl, rfl, q⟩
  · exact op_inS (by omega) pins s σ H _ _ v u Q I rx ry ⟨B0, d, p, zs, hd, rfl, hp, q⟩
  · refine op_in_seq pins s σ H _ _ v u Q I rx ry ⟨p, _, rfl, .inl hp, rfl, ?_, ?_⟩
    · rw [List.all_map]; exact List.all_eq_true.mpr fun _ _ => rfl
    · rw [if_neg Bool.false_ne_true, inV_str]; exact q
  · simp only [okD, Bool.and_eq_true, decide_eq_true_eq] at hc
    obtain ⟨as, r1, _⟩ := Dq.reads I (sysNone I hK) d _ _ hd rx
    have hm : min (PyData.depthAll ys) (PyData.depth d) ≤ 64 := Nat.le_trans (Nat.min_le_right _ _) hc.2.2
    rcases hy with hy | hy
    · obtain ⟨bs, r2, _⟩ := Dq.reads I (sysNone I hK) _ _ _ hy ry
      exact SeqAt.in_list_reads r2 r1 hc.1 hc.2.1 (by omega) ⟨.bl _, H, I, rfl, q⟩
    · obtain ⟨bs, r2, _⟩ := Dq.reads I (sysNone I hK) _ _ _ hy ry
      exact SeqAt.in_tuple_reads r2 r1 hc.1 hc.2.1 (by omega) ⟨.bl _, H, I, rfl, q⟩
  · obtain rfl : u = Value.ref a := ry
    exact d_in (by omega) I g rx fun s3 I3 => ⟨.bl o.isSome, H, I3, rfl, q⟩
theorem or_nin {X : Cx} (hK : (X.K.lookup sysModules).isSome = true) (hu : X.A.units + 66 < cLine) : OpR X (compareOp .NotIn) (rInQ X.K true) := by
  intro pins s σ H x y v u Q I rx ry h
  simp only [rInQ, Bool.true_bne] at h
  rcases h with ⟨c, z, rfl, rfl, q⟩ | ⟨d, p, zs, hd, rfl, hp, q⟩ | ⟨w, p, zs, rfl, rfl, hp, q⟩ | ⟨d, ys, hd, hy, hc, q⟩ | ⟨a, o, rfl, g, q⟩
  · exact op_notIn_sign pins s σ H _ _ v u Q I rx ry ⟨c, z, rfl, rfl, q⟩
  · exact op_notInS (by omega) pins s σ H _ _ v u Q I rx ry ⟨B0, d, p, zs, hd, rfl, hp, q⟩
  · refine op_notIn_seq pins s σ H _ _ v u Q I rx ry ⟨p, _, rfl, .inl hp, rfl, ?_, ?_⟩
    · rw [List.all_map]; exact List.all_eq_true.mpr fun _ _ => rfl
    · rw [if_pos rfl, inV_str]; exact q
  · simp only [okD, Bool.and_eq_true, decide_eq_true_eq] at hc
    obtain ⟨as, r1, _⟩ := Dq.reads I (sysNone I hK) d _ _ hd rx
    have hm : min (PyData.depthAll ys) (PyData.depth d) ≤ 64 := Nat.le_trans (Nat.min_le_right _ _) hc.2.2
    rcases hy with hy | hy
    · obtain ⟨bs, r2, _⟩ := Dq.reads I (sysNone I hK) _ _ _ hy ry
      exact SeqAt.notIn_list_reads r2 r1 hc.1 hc.2.1 (by omega) ⟨.bl _, H, I, rfl, q⟩
    · obtain ⟨bs, r2, _⟩ := Dq.reads I (sysNone I hK) _ _ _ hy ry
      exact SeqAt.notIn_tuple_reads r2 r1 hc.1 hc.2.1 (by omega) ⟨.bl _, H, I, rfl, q⟩
  · obtain rfl : u = Value.ref a := ry
    exact d_notIn (by omega) I g rx fun s3 I3 => ⟨.bl (!o.isSome), H, I3, rfl, q⟩
theorem o_inn {neg : Bool} {cop : Cop} (hb : ∀ e x y, cmpU cop e x y = inU e neg x y) : OpS S (rInQ S.K neg) (cmpU cop) := fun H T e σ x y z v1 v2 Q f h k => by
  rw [hb] at h
  have fin : ∀ b : Bool, (∀ v H1, S.fr H1 ((.d (.bool b), v) :: T) e σ → Same H H1 → Q v H1) → Q (.bl b) H := fun b k => k _ H f.tail.tail.bl (Same.refl H)
  unfold inU at h
  split at h
  · rename_i w' z'
    split at h
    · rename_i hs
      cases h
      have h2 := f.dstr
      have h1 := f.tail.dstr
      subst h1 h2
      exact .inl ⟨_, _, congrArg V.str (one_sign hs), rfl, fin _ k⟩
    · cases h
  · rename_i x _
    have hx : Dq S.K B0 H x v1 := dvE f.tail rfl
    split at h
    · rename_i kvs hk
      split at h
      · rename_i hi
        cases h
        obtain ⟨key, ek⟩ := Option.isSome_iff_exists.mp hi
        have := keyD_of ek
        subst this
        obtain ⟨a, ws, rfl, ha, s1, d⟩ := dcD f hk
        obtain ⟨D, dq⟩ := d.dq
        have e1 : v1 = kV key := by
          cases key with
          | inl i => exact f.tail.dint
          | inr i => exact f.tail.dstr
        subst e1
        refine .inr (.inr (.inr (.inr ⟨a, _, rfl, DGet.k (k := key) ha, ?_⟩)))
        have : (valV ws key).isSome = (lookD (keyD key) kvs).isSome := by
          rcases look_val (keyOf_keyD key) s1 dq.length.symm with ⟨i, d, w, e1, _, _, e4⟩ | ⟨e1, e2⟩
          · rw [e1, e4]; rfl
          · rw [e1, e2]; rfl
        rw [this]
        exact fin _ k
      · cases h
    · split at h
      · rename_i ys _ _
        cases ei : inF true x ys with
        | none => rw [ei] at h; cases h
        | some r =>
          rw [ei] at h
          cases h
          unfold inF at ei
          split at ei
          · rename_i zs ez
            rw [if_pos rfl] at ei
            cases ei
            obtain ⟨a, vs, rfl, ha, d⟩ := tvD f
            obtain ⟨D, dq⟩ := d.dq
            have := dqL_allS dq ez
            subst this
            exact .inr (.inl ⟨x, a, zs, hx, rfl, ha, fin _ k⟩)
          · split at ei
            · rename_i hc
              cases ei
              exact .inr (.inr (.inr (.inl ⟨x, ys, hx, .inr (dvE f rfl), hc, fin _ k⟩)))
            · cases ei
      · split at h
        · rename_i ys ey
          cases ei : inF false x ys with
          | none => rw [ei] at h; cases h
          | some r =>
            rw [ei] at h
            cases h
            obtain ⟨a, vs, rfl, ha, d⟩ := lvD f ey
            obtain ⟨D, dq⟩ := d.dq
            have hd : Dq S.K B0 H (.list ys) (.ref a) := by
              unfold Dq
              exact ⟨a, vs, rfl, fun z => z, ha, DqL.free dq⟩
            unfold inF at ei
            split at ei
            · rename_i zs ez
              rw [if_neg Bool.false_ne_true] at ei
              split at ei
              · rename_i w' _
                cases ei
                have := dqL_allS dq ez
                subst this
                have h1 := f.tail.dstr
                subst h1
                exact .inr (.inr (.inl ⟨w', a, zs, rfl, rfl, SqL.of ha, fin _ k⟩))
              · split at ei
                · rename_i hc
                  cases ei
                  exact .inr (.inr (.inr (.inl ⟨x, ys, hx, .inl hd, hc, fin _ k⟩)))
                · cases ei
            · split at ei
              · rename_i hc
                cases ei
                exact .inr (.inr (.inr (.inl ⟨x, ys, hx, .inl hd, hc, fin _ k⟩)))
              · cases ei
        · cases h
  · cases h
theorem o_in : OpS S (rInQ S.K false) (cmpU .in_) := o_inn fun _ _ _ => rfl
theorem o_nin : OpS S (rInQ S.K true) (cmpU .nin) := o_inn fun _ _ _ => rfl
/-! ### items -/
def rDix : R2 := fun x y H Q => ∃ a v, x = .ref a ∧ DGet H a y (some v) ∧ Q v H
theorem ix_dct {X : Cx} (hu : X.A.units + 1 < cLine) : IxR X rDix := by
  intro value slice pins s σ H x y v u Q I rx ry ⟨a, w, ex, g, q⟩ hs
  subst ex
  obtain rfl : v = Value.ref a := rx
  have hT := dict_typeIs I g
  unfold subscriptTail
  refine wpAny_bind ?_
  rw [getitemInPython_of_ne hT.not_modules]
  refine wpAny_bind (wpAny_specialOf hT PySem.F.slot_dict_getitem.lookup ?_)
  have fin : wpAny (model X.prog X.w) X.A (subscripted slice false (.ref a) u) (fun r s₃ => wpAny (model X.prog X.w) X.A (letTemporaryGo value (.ref a) r >>= fun _ => pure r) (EP X pins σ Q) X.xe s₃) X.xe s := by
    rw [hs]
    refine wpAny_operating ?_
    exact d_getItem hu I g ry fun w' s3 I3 rw' => wpAny_bind (wpAny_letTemporaryGo (wpAny_pure ⟨w, H, I3, rw', q⟩))
  first
    | exact wpAny_pure (wpAny_bind fin)
    | exact wpAny_bind (wpAny_pure (wpAny_bind fin))
    | exact wpAny_bind fin
def rIxA (K : PySem.W.Frag) : R2 := fun x y H Q => rIxL K x y H Q ∨ rIxT K x y H Q ∨ rIxS x y H Q ∨ rDix x y H Q
theorem or_ix {X : Cx} (hu : X.A.units + 1 < cLine) : IxR X (rIxA X.K) := IxR.or ix_list (IxR.or ix_tup (IxR.or ix_str (ix_dct hu)))
theorem atI_dq {K : PySem.W.Frag} {D : Ban} {H : Hp} {xs : List PyData} {vs : List V} {i : Int} {x : PyData} (h : DqL K D H xs vs) (e : atI xs i = some x) : ∃ (j : Nat) (v : V), atI vs i = some v ∧ xs[j]? = some x ∧ vs[j]? = some v := by
  unfold atI at e ⊢
  cases q : ixN xs.length i with
  | none => rw [q] at e; cases e
  | some j =>
    rw [q] at e
    have e2 : xs[j]? = some x := e
    obtain ⟨v, h1, h2⟩ := h.get e2
    exact ⟨j, v, by rw [h.length, q]; exact h1, e2, h1⟩
theorem Ow.kid {K : PySem.W.Frag} {D : Ban} {H : Hp} {x y : O} {v : V} {A : List Addr} {k : PyData} (h : Ow K D H x v A) (e : x.kid k = some y) : ∃ a w A', v = .ref a ∧ Ow K D H y w A' ∧ ((∃ i vs, k = .int i ∧ H a = some (.lst vs) ∧ atI vs i = some w) ∨ ∃ key ws, k = keyD key ∧ H a = some (.dK ws) ∧ valV ws key = some w) := by
  cases x with
  | leaf d => cases e
  | lst xs =>
    cases k with
    | int i =>
      have e : atI xs i = some y := e
      unfold Ow at h
      obtain ⟨a, vs, As, rfl, _, ha, hl⟩ := h
      have key : ∀ (xs : List O) (vs : List V) (As : List Addr) (j : Nat), OwL K D H xs vs As → xs[j]? = some y → vs.length = xs.length → ∃ w A', vs[j]? = some w ∧ Ow K D H y w A' := by
        intro xs
        induction xs with
        | nil => intro vs As j _ hj; simp at hj
        | cons x xs ih =>
          intro vs As j h hj hlen
          unfold OwL at h
          obtain ⟨w, r, A1, A2, rfl, _, h1, h2⟩ := h
          cases j with
          | zero =>
            have hj : some x = some y := by simpa using hj
            cases hj
            exact ⟨w, A1, rfl, h1⟩
          | succ j => exact ih _ _ j h2 (by simpa using hj) (by simpa using hlen)
      have hlen := ((OwL.rl (fa := fun _ => a)).mp hl).1
      unfold atI at e
      cases q : ixN xs.length i with
      | none => rw [q] at e; cases e
      | some j =>
        rw [q] at e
        obtain ⟨w, A', h1, h2⟩ := key _ _ _ _ hl e hlen
        refine ⟨a, w, A', rfl, h2, .inl ⟨i, vs, rfl, ha, ?_⟩⟩
        unfold atI
        rw [hlen, q]
        exact h1
    | _ => cases e
  | dic kvs =>
    have e : (keyOf k).bind (fun k => lookO k kvs) = some y := e
    obtain ⟨key, ek, e2⟩ := Option.bind_eq_some_iff.mp e
    have := keyD_of ek
    subst this
    unfold Ow at h
    obtain ⟨a, ws, As, rfl, _, _, ha, hl⟩ := h
    have go : ∀ (kvs : List (Key × O)) (ws : List (Key × V)) (As : List Addr), OwK K D H kvs ws As → lookO key kvs = some y → ∃ w A', valV ws key = some w ∧ Ow K D H y w A' := by
      intro kvs
      induction kvs with
      | nil => intro ws As _ hj; cases hj
      | cons p kvs ih =>
        obtain ⟨k1, x⟩ := p
        intro ws As h hj
        unfold OwK at h
        obtain ⟨w, r, A1, A2, rfl, _, h1, h2⟩ := h
        have hj : (if k1 = key then some x else lookO key kvs) = some y := hj
        by_cases q : k1 = key
        · rw [if_pos q] at hj
          cases hj
          refine ⟨w, A1, ?_, h1⟩
          unfold valV
          rw [List.find?_cons, show decide ((k1, w).1 = key) = true from decide_eq_true q]
          rfl
        · rw [if_neg q] at hj
          obtain ⟨w', A', i1, i2⟩ := ih _ _ h2 hj
          refine ⟨w', A', ?_, i2⟩
          unfold valV at i1 ⊢
          rw [List.find?_cons, show decide ((k1, w).1 = key) = false from decide_eq_false q]
          exact i1
    obtain ⟨w, A', h1, h2⟩ := go _ _ _ hl e2
    exact ⟨a, w, A', rfl, h2, .inr ⟨key, ws, rfl, ha, h1⟩⟩
  | dit kvs => cases k <;> cases e
theorem kU {y : U} {z : U} {v2 : V} (f : S.fr H ((y, v2) :: (u, v) :: T) e σ) (h : kidU e u y = some z) : ∃ w, rIxA S.K v v2 H (fun r H1 => r = w ∧ H1 = H) ∧ S.fr H ((z, w) :: T) e σ := by
  unfold kidU at h
  split at h
  · rename_i i k
    split at h
    · rename_i d hd
      cases h
      obtain ⟨x, hx, hk⟩ := Option.bind_eq_some_iff.mp hd
      have m := f.tail.own hx
      obtain ⟨A0, n0, r0⟩ := f.tail.tail.rel
      have m2 : (U.o x, v) ∈ T ++ fl e σ := List.mem_append_right _ m
      obtain ⟨A', hu⟩ := RL.find r0 m2
      have hu : Ow S.K (· ∈ A0) H x v A' := hu
      obtain ⟨a, w, A2, rfl, hw, hc⟩ := hu.kid hk
      have hfr : S.fr H (ent [d] [w] ++ T) e σ := f.tail.tail.addL fun A r => by
        obtain ⟨A3, hu3⟩ := RL.find r m2
        have hu3 : Ow S.K (· ∈ A) H x (.ref a) A3 := hu3
        obtain ⟨a3, w3, A4, ea, hw3, hc3⟩ := hu3.kid hk
        cases ea
        have : w3 = w := by
          rcases hc with ⟨i1, vs1, rfl, e1, e2⟩ | ⟨k1, ws1, rfl, e1, e2⟩
          · rcases hc3 with ⟨i2, vs2, e3, e4, e5⟩ | ⟨k2, ws2, e3, e4, e5⟩
            · cases e3; rw [e1] at e4; cases e4; rw [e2] at e5; cases e5; rfl
            · rw [e1] at e4; cases e4
          · rcases hc3 with ⟨i2, vs2, e3, e4, e5⟩ | ⟨k2, ws2, e3, e4, e5⟩
            · rw [e1] at e4; cases e4
            · have : k1 = k2 := by
                have := congrArg keyOf e3
                rw [keyOf_keyD, keyOf_keyD] at this
                cases this; rfl
              subst this
              rw [e1] at e4; cases e4; rw [e2] at e5; cases e5; rfl
        subst this
        unfold Ow at hw3
        exact DqL.cons hw3.2 DqL.nil
      refine ⟨w, ?_, hfr⟩
      rcases hc with ⟨i1, vs1, rfl, e1, e2⟩ | ⟨k1, ws1, rfl, e1, e2⟩
      · have := f.dint
        subst this
        exact .inl ⟨a, vs1, i1, w, rfl, rfl, SqL.of e1, e2, rfl, rfl⟩
      · have ev : v2 = kV k1 := by
          cases k1 with
          | inl i => exact f.dint
          | inr i => exact f.dstr
        subst ev
        refine .inr (.inr (.inr ⟨a, w, rfl, ?_, rfl, rfl⟩))
        rw [← e2]
        exact DGet.k e1
    · cases h
  · cases h
theorem rIxA_mono {K : PySem.W.Frag} {x y : V} {H : Hp} {Q Q' : VK} (h : rIxA K x y H Q) (hq : ∀ v H, Q v H → Q' v H) : rIxA K x y H Q' := by
  rcases h with ⟨a, b, c, d, e1, e2, e3, e4, q⟩ | ⟨a, b, c, d, e1, e2, e3, e4, q⟩ | ⟨a, b, c, e1, e2, e3, e4, q⟩ | ⟨a, b, e1, e2, q⟩
  · exact .inl ⟨a, b, c, d, e1, e2, e3, e4, hq _ _ q⟩
  · exact .inr (.inl ⟨a, b, c, d, e1, e2, e3, e4, hq _ _ q⟩)
  · exact .inr (.inr (.inl ⟨a, b, c, e1, e2, e3, e4, hq _ _ q⟩))
  · exact .inr (.inr (.inr ⟨a, b, e1, e2, hq _ _ q⟩))
theorem o_sub' : OpS S (rIxA S.K) subU := fun H T e σ x y z v1 v2 Q f h k => by
  unfold subU at h
  split at h
  · rename_i z2 hz
    cases h
    obtain ⟨w, h1, f2⟩ := kU f hz
    exact rIxA_mono h1 fun v H1 ⟨e1, e2⟩ => by subst e1 e2; exact k _ _ f2 (Same.refl _)
  unfold subU0 at h
  split at h
  · rename_i kd
    split at h
    · rename_i kvs hk
      split at h
      · rename_i hi
        obtain ⟨key, ek⟩ := Option.isSome_iff_exists.mp hi
        have := keyD_of ek
        subst this
        have e2 : v2 = kV key := by
          cases key with
          | inl i => exact f.dint
          | inr i => exact f.dstr
        subst e2
        obtain ⟨a, ws, rfl, ha, s1, d⟩ := dcD f.tail hk
        obtain ⟨D, dq⟩ := d.dq
        rcases look_val (keyOf_keyD key) s1 dq.length.symm with ⟨i, d', w, e1, e2, e3, e4⟩ | ⟨e1, e2⟩
        · rw [e1] at h
          cases h
          refine .inr (.inr (.inr ⟨a, w, rfl, ?_, k w H (d.item e2 e3) (Same.refl H)⟩))
          rw [← e4]
          exact DGet.k ha
        · rw [e1] at h; cases h
      · cases h
    · split at h
      · rename_i i
        have := f.dint
        subst this
        split at h
        · rename_i xs ex
          cases ea : atI xs i with
          | none => rw [ea] at h; cases h
          | some d' =>
            rw [ea] at h
            cases h
            obtain ⟨a, vs, rfl, hs, d⟩ := svD f.tail ex
            obtain ⟨D, dq⟩ := d.dq
            obtain ⟨j, w, k1, k2, k3⟩ := atI_dq dq ea
            have fin := k w H (d.item k2 k3) (Same.refl H)
            rcases hs with hs | hs
            · exact .inl ⟨a, vs, i, w, rfl, rfl, hs, k1, fin⟩
            · exact .inr (.inl ⟨a, vs, i, w, rfl, rfl, hs, k1, fin⟩)
        · split at h
          · rename_i s _ _
            split at h
            · rename_i hl
              cases ea : atI s.cps.toList i with
              | none => rw [ea] at h; cases h
              | some d' =>
                rw [ea] at h
                cases h
                have := f.tail.dstr
                subst this
                exact .inr (.inr (.inl ⟨s, i, d', rfl, rfl, sz_of hl, ea, k _ H f.tail.tail.str (Same.refl H)⟩))
            · cases h
          · cases h
      · cases h
  · cases h
/-! ### isinstance -/
def tyN : PyData → String
  | .none => "NoneType"
  | .bool _ => "bool"
  | .int _ => "int"
  | .str _ => "str"
  | .list _ => "list"
  | .tuple _ => "tuple"
  | .dict _ => "dict"
theorem tyx {K : PySem.W.Frag} {D : Ban} {H : Hp} {d : PyData} {v : V} (h : Dq K D H d v) : TyX K H v (.type (tyN d)) := by
  cases d with
  | none => unfold Dq at h; subst h; exact .base .non
  | bool b => unfold Dq at h; subst h; exact .base (.bl b)
  | int i => unfold Dq at h; subst h; exact .base (.int i)
  | str x => unfold Dq at h; subst h; exact .base (.str x)
  | list ds => unfold Dq at h; obtain ⟨a, xs, rfl, _, ha, _⟩ := h; exact .base (.lst ha)
  | tuple ds =>
    unfold Dq at h
    obtain ⟨a, xs, rfl, ha, _⟩ := h
    rcases ha with (ha | ⟨o, ha⟩) | ⟨o, its, n, hk, hc, _⟩
    · exact .base (.tup ha)
    · exact .fTuple ha
    · exact .kTuple hk hc
  | dict kvs =>
    unfold Dq at h
    obtain ⟨a, rfl, _, h⟩ := h
    rcases h with ⟨ys, ha, _⟩ | ⟨ys, _, ha, _⟩
    · exact .base (.dK ha)
    · exact .base (.dT ha)
theorem isT_kit {T : String} {d : PyData} {b : Bool} (h : isT T d = some b) : kitB (tyN d) T = some b := by
  cases d with
  | none => show kitB "NoneType" T = some b; unfold isT at h; split at h <;> first | (cases h; decide +kernel) | (rename_i hh; cases hh) | cases h
  | bool x => show kitB "bool" T = some b; unfold isT at h; split at h <;> first | (rename_i hh; cases hh; done) | (cases h; decide +kernel) | (exfalso; rename_i hh; exact hh _ rfl) | (exfalso; rename_i hh _; exact hh _ rfl) | cases h
  | int x => show kitB "int" T = some b; unfold isT at h; split at h <;> first | (rename_i hh; cases hh; done) | (cases h; decide +kernel) | (exfalso; rename_i hh; exact hh _ rfl) | (exfalso; rename_i hh _; exact hh _ rfl) | cases h
  | str x => show kitB "str" T = some b; unfold isT at h; split at h <;> first | (rename_i hh; cases hh; done) | (cases h; decide +kernel) | (exfalso; rename_i hh; exact hh _ rfl) | (exfalso; rename_i hh _; exact hh _ rfl) | cases h
  | list x => show kitB "list" T = some b; unfold isT at h; split at h <;> first | (rename_i hh; cases hh; done) | (cases h; decide +kernel) | (exfalso; rename_i hh; exact hh _ rfl) | (exfalso; rename_i hh _; exact hh _ rfl) | cases h
  | tuple x => show kitB "tuple" T = some b; unfold isT at h; split at h <;> first | (rename_i hh; cases hh; done) | (cases h; decide +kernel) | (exfalso; rename_i hh; exact hh _ rfl) | (exfalso; rename_i hh _; exact hh _ rfl) | cases h
  | dict x => show kitB "dict" T = some b; unfold isT at h; split at h <;> first | (rename_i hh; cases hh; done) | (cases h; decide +kernel) | (exfalso; rename_i hh; exact hh _ rfl) | (exfalso; rename_i hh _; exact hh _ rfl) | cases h
theorem isT_pos {T : String} (hT : T ∈ ["int", "bool", "str", "tuple", "list", "dict"]) : bootBuiltins (Str.ofString T) = some (.type T) := by
  simp only [List.mem_cons, List.not_mem_nil, or_false] at hT
  rcases hT with rfl | rfl | rfl | rfl | rfl | rfl <;> decide +kernel
theorem s_isi {X : Cx} {ca : CE} {a t : Expr} {pos p : Pos} {T : String} (ha : PE X a (lE S ca)) (ht : PE X t (tC (.ty T))) (hK : X.K = S.K) (hg : Gl X "isinstance") (hm : X.mg "isinstance" = none)
    (he1 : starEach [a, t] X.env = (false, eval a X.env) :: starEach [t] X.env) (he2 : starEach [t] X.env = (false, eval t X.env) :: starEach [] X.env) (hpl : (backTo pos (starEach [t] X.env)).any (·.1) = false) : PE X (.Call (.Name "isinstance" p) [a, t] [] pos) (lE S (.isi ca [T])) :=
  imp_e (pe_callB call_isi hg hm (by decide +kernel) (pa_cons ha (pa_cons ht pa_nil he2) he1) (by decide) (by decide) he1 hpl) fun σ H Q ⟨T', e, f, h⟩ => by
    rw [ev] at h
    refine ⟨T', e, f, out_mono (out_bd.mp h) (fun x e1 h1 v H1 f1 s1 => ?_) fun _ _ z => z⟩
    obtain ⟨z, ez, k⟩ := out_lift h1
    unfold isiU at ez
    split at ez
    · rename_i d hd
      cases q : isT T d with
      | none => rw [q] at ez; cases ez
      | some b =>
        rw [q] at ez
        cases ez
        rw [hK]
        exact ⟨v, .ty T, _, _, b, rfl, .ty T, tyx (dvE f1 hd), kit_ty (isT_kit q), k _ H1 f1.tail.bl (sid fun qq => s1.sm (by rw [qt] at qq; exact qq))⟩
    · cases ez
end
end Fi
set_option maxHeartbeats 4000000
/-! Products, slices, turned round. -/
namespace Fi
open PySem PySem.Spec PyProof.Rows L2 HT
section
variable {prog : Program} {w : World} {A : Around} {E : Value → Shared → Prop} {s : Shared}
theorem rev_places (n : Nat) : Builtin.Slice.slicePlaces ((n : Int) - 1) (-1) (-1) = n := by
  unfold Builtin.Slice.slicePlaces
  have h1 : ¬ ((-1 : Int) > 0) := by omega
  simp only [h1, if_false]
  split
  · have : ((n : Int) - 1 - -1 - 1) / (- -1) = (n : Int) - 1 := by
      have e : (- -1 : Int) = 1 := by omega
      rw [e, Int.ediv_one]; omega
    rw [this]; omega
  · omega
theorem rev_pick (xs : Array Value) : ((List.range xs.size).filterMap fun (m : Nat) => xs[((xs.size : Int) - 1 + (m : Int) * -1).toNat]?).toArray = xs.toList.reverse.toArray := by
  congr 1
  have e : (List.range xs.size).filterMap (fun (m : Nat) => xs[((xs.size : Int) - 1 + (m : Int) * -1).toNat]?) = ((List.range xs.size).map fun k => xs.size - 1 - k).filterMap (xs[·]?) := by
    rw [List.filterMap_map]
    congr 1
    funext m
    have : ((xs.size : Int) - 1 + (m : Int) * -1).toNat = xs.size - 1 - m := by omega
    rw [this]
    rfl
  rw [e, PySem.W.krv_range, List.filterMap_reverse, PySem.W.krv_all]
theorem sliceApplied_rev {sl : Addr} {vs : Value} {n : Nat} {Q : Int × Int × Nat → Shared → Prop} (hs : s.heap.IsSliceOf sl .none .none vs) (ps : IsPart vs (some (-1)))
    (h : Q ((n : Int) - 1, -1, n) s) : wpAny (model prog w) A (Builtin.Slice.sliceApplied (.ref sl) (pure (n : Int))) Q E s := by
  obtain ⟨os, hos, hcs, hds⟩ := id hs
  unfold Builtin.Slice.sliceApplied Builtin.Slice.sliceFields
  refine wpAny_bind (wpAny_bind (wpAny_field hos hds (x := .none) rfl (wpAny_bind (wpAny_field hos hds (x := .none) rfl (wpAny_bind (wpAny_field hos hds (x := vs) rfl (wpAny_pure ?_)))))))
  refine wpAny_bind (slicePart_ ps ?_)
  show wpAny _ _ (if ((-1 : Int) == 0) = true then _ else _) _ _ s
  rw [if_neg (by decide)]
  refine wpAny_bind (slicePart_none (wpAny_bind (slicePart_none (wpAny_bind (wpAny_pure ?_)))))
  show wpAny _ _ (pure ((n : Int) - 1, (-1 : Int), Builtin.Slice.slicePlaces ((n : Int) - 1) (-1) (-1))) _ _ s
  rw [rev_places]
  exact wpAny_pure h
theorem getItem_tuple_rev {t sl : Addr} {items : Array Value} {vs : Value} {Q : Value → Shared → Prop} (ht : IsTup s.heap t items) (hs : s.heap.IsSliceOf sl .none .none vs) (ps : IsPart vs (some (-1)))
    (h : Q (.ref s.heap.objs.size) { s with heap := s.heap.push { cls := .type "tuple", data := .seq items.toList.reverse.toArray } })
    (hsz : items.size ≤ sizeLine) : wpAny (model prog w) A (getItem (.ref t) (.ref sl)) Q E s := by
  have htake : sizeOk (.seq items.toList.reverse.toArray) := by
    show items.toList.reverse.toArray.size ≤ sizeLine
    rw [List.size_toArray, List.length_reverse, Array.length_toList]
    omega
  obtain ⟨os, hos, hcs, hds⟩ := id hs
  have hTs : s.TypeIs (.ref sl) "slice" := ⟨os, hos, hcs⟩
  unfold getItem
  try with_reducible refine wpAny_holding ?_
  first | refine wpAny_bind (wpAny_pure ?_) | skip
  refine wpAny_bind (wpAny_sequenceKey ht.typeIs (by decide) ?_)
  refine wpAny_bind (wpAny_callSpecial?_slot (name := Str.ofString "__getitem__") ht.typeIs PyProof.Rows.slot_tuple_getitem
    (wpAny_call_entry PyProof.Rows.slot_tuple_getitem ht.typeIs entry_tuple_getitem ?_ (args_tuple_getitem _ _)))
  show wpAny _ _ (Builtin.Tuple.tupleItemsOf (.ref t) >>= _) _ _ s
  refine wpAny_bind (tupleItemsOf_ ht ?_)
  refine wpAny_bind (wpAny_typeOf hTs ?_)
  rw [if_pos (by decide)]
  refine wpAny_bind (sliceApplied_rev hs ps ?_)
  have hno : ¬ ((((items.size : Int) - 1) == 0 && (-1 : Int) == 1 && items.size == items.size) = true) := by
    intro q
    rw [Bool.and_eq_true, Bool.and_eq_true] at q
    exact absurd q.1.2 (by decide)
  show wpAny _ _ (if (((items.size : Int) - 1) == 0 && (-1 : Int) == 1 && items.size == items.size) = true then _ else _) _ _ s
  rw [if_neg hno, rev_pick]
  first
    | exact wpAny_bind (m := Builtin.Tuple.tupleExact _) (wpAny_newObj_type (wpAny_pure ⟨_, rfl, wpAny_pure h⟩) htake)
    | exact wpAny_bind (m := Builtin.Tuple.tupleExact _) (wpAny_newObj_type (wpAny_bind (wpAny_pure (wpAny_pure ⟨_, rfl, wpAny_pure h⟩))) htake)
    | exact wpAny_bind (wpAny_bind (m := Builtin.Tuple.tupleExact _) (wpAny_newObj_type (wpAny_pure (wpAny_pure ⟨_, rfl, wpAny_pure h⟩)) htake))
    | exact wpAny_bind (wpAny_bind (m := Builtin.Tuple.tupleExact _) (wpAny_newObj_type (wpAny_pure ⟨_, rfl, wpAny_pure h⟩) htake))
end
section
variable {X : Cx}
def tRevT (K : PySem.W.Frag) (te : TE) : TE := fun σ H Q => te σ H fun x H1 => ∃ a xs, x = .ref a ∧ SqT K H1 a xs ∧ ∀ p, H1 p = none → Q (.ref p) (upd H1 p (.tup xs.reverse))
theorem pe_revT {e : Expr} {te : TE} {k : Nat} {p1 p2 p3 pos : Pos} (he : PE X e te) : PE X (.Subscript e (.Slice none none (some (.UnaryOp .USub (.Constant (.int 1) k p1) p2)) p3) pos) (tRevT X.K te) := by
  refine ⟨fun pins s σ H Q I h => ?_⟩
  refine Subscript_ (thn (he.run pins s σ H _ I h) fun v s1 ⟨x, H1, I1, r1, q1⟩ => ?_)
  obtain ⟨a, xs, ex, hx, q⟩ := q1
  subst ex
  cases r1
  have hst : PO X (some (.UnaryOp .USub (.Constant (.int 1) k p1) p2)) (tPart (tUn (rU fun i => .int (-i)) (tC (.int 1)))) := po_some (pe_un un_neg pe_int)
  refine wpAny_Slice (wpAny_pure ?_)
  refine wpAny_pure ?_
  refine thn (hst.run pins s1 σ H1 (fun o H4 => o = some (-1) ∧ H4 = H1) I1 ⟨1, rfl, -1, rfl, rfl, rfl⟩) fun vs s4 ⟨o, H4, I4, ps, eo, e4⟩ => ?_
  subst eo e4
  have I5 : Inv X pins σ H4 { s4 with heap := s4.heap.push { cls := .type "slice", data := .fields #[.none, .none, vs] } } := I4.kept (t' := s4.toks) fun b ob q => Heap.get?_push_of_some _ q
  obtain ⟨its, r, ht, hz⟩ := I5.tuple hx
  have hlen := r.length
  show wpAny (model X.prog X.w) X.A (subscriptTail e (.Slice none none (some (.UnaryOp .USub (.Constant (.int 1) k p1) p2)) p3) (.ref a) (.ref s4.heap.objs.size)) (EP X pins σ Q) X.xe { s4 with heap := s4.heap.push { cls := .type "slice", data := .fields #[.none, .none, vs] } }
  refine tail_any (ops := [.ref a, .ref s4.heap.objs.size]) ht.typeIs (PyProof.Rows.slot_tuple_getitem.lookup) ?_ (by with_unfolding_all rfl)
  refine getItem_tuple_rev ht (Heap.IsSliceOf.new _ .none .none vs) ps ?_ (by rw [List.size_toArray]; omega)
  refine ⟨.ref _, _, I5.laid (t' := s4.toks) (o := .tup xs.reverse) (fun b ob q => Heap.get?_push_of_some _ q) (Nat.le_refl _) ?_, rfl, q _ (I5.hok.fresh (Nat.le_refl _))⟩
  exact ⟨by rw [List.length_reverse]; exact hz, _, r.reverse, IsTup.new _ _⟩
/-! ### tuple * int, an empty one too -/
theorem tuple_mulW0 (l : Addr) (n : Nat) (dd : Option Addr) (sl : Array (Option Value)) (x : Int) (u : Tok) (c0 : (decide (x < -(2 ^ 63)) || decide (x ≥ 2 ^ 63)) = false) :
    Meets (Builtin.«tuple.__mul__» ⟨[.ref l, .int x u], []⟩) (fun _ R s => s.heap.get? l = some { cls := .type "tuple", dict := dd, data := .seq #[] n, slots := sl } ∧
      R (.ok (.ret (Value.ref l))) s) :=
  .of_wp fun prog w A R s h => by
    obtain ⟨hp, g, d, tk, os⟩ := s
    obtain ⟨hl, h⟩ := h
    have f1 := AutoSeq1.idx_int
    wp_walk using wpAny_loadPart' hl
    repeat (first
      | (refine wpAny_ite_false (decide_eq_false (by rw [c0]; exact Bool.false_ne_true)) ?_; wp_walk using wpAny_loadPart' hl)
      | (refine wpAny_ite_true (decide_eq_true (by rfl)) ?_; wp_walk using wpAny_loadPart' hl))
    all_goals exact ⟨_, rfl, h⟩
def rRepA (K : PySem.W.Frag) : R2 := fun x y H Q => ∃ l k xs, x = .ref l ∧ y = .int k ∧ SqT K H l xs ∧ 2 ≤ k ∧ k ≤ 1000 ∧ xs.length ≤ 1000 ∧ (xs = [] → Q (.ref l) H) ∧ ∀ p, H p = none → Q (.ref p) (upd H p (.tup (List.replicate k.toNat xs).flatten))
theorem op_repA : OpR X (binaryOp .Mult) (rRepA X.K) := by
  intro pins s σ H x y v u Q I rx ry h
  obtain ⟨l, k, xs, rfl, rfl, hT, h1, h2, hz, q0, q⟩ := h
  by_cases hne : xs = []
  · subst hne
    cases rx
    obtain ⟨t, rfl⟩ := ry
    obtain ⟨its, r, ⟨⟨cls, dd, data, sl⟩, ho, hc, n, hd⟩, hs⟩ := I.tuple hT
    simp only at hc hd
    subst hc hd
    cases r
    have c0 : (decide (k < -(2 ^ 63)) || decide (k ≥ 2 ^ 63)) = false := by
      rw [decide_eq_false (by omega), decide_eq_false (by omega)] <;> rfl
    exact wpAny_binaryOp_repeat_ref (T := "tuple") (U := "int") (by decide) ⟨_, ho, rfl⟩ (fun s' => typeIs_int s' k t) noFill_tuple_mul F.fills_int_mul F.slot_int_rmul repeat_tuple F.slot_int_index.lookup
      (call_meets F.slot_int_rmul (typeIs_int s k t) F.entry_int_rmul (F.args_int_rmul_2 _ _) (int_rmul_tuple k t l _ n dd sl)
        ⟨ho, rfl, ⟨_, ho, rfl⟩, call_meets F.slot_tuple_mul ⟨_, ho, rfl⟩ F.entry_tuple_mul (F.args_tuple_mul_2 _ _) (tuple_mulW0 l n dd sl k t c0) ⟨ho, ⟨.ref l, H, I, rfl, q0 rfl⟩⟩⟩)
  · exact op_repT pins s σ H _ _ v u Q I rx ry ⟨l, k, xs, rfl, rfl, hT, hne, h1, h2, hz, q⟩
end
section
variable {S : Sur} {H H' : Hp} {T : List (U × V)} {e : Env} {σ : L2.St} {u : U} {v : V} {xs ys : List PyData}
/-! ### * -/
theorem repL_zero {α : Type} (xs : List α) : repL 0 xs = [] := rfl
theorem repL_one {α : Type} (xs : List α) : repL 1 xs = xs := by unfold repL; simp
theorem repL_nil {α : Type} (n : Nat) : repL n ([] : List α) = [] := by unfold repL; simp
theorem foldl_repS (c : Array Nat) : ∀ (n : Nat) (acc : Array Nat), (List.replicate n c).foldl (· ++ ·) acc = acc ++ (repL n c.toList).toArray
  | 0, acc => by simp [repL]
  | n + 1, acc => by
    rw [List.replicate_succ, List.foldl_cons, foldl_repS c n]
    unfold repL
    rw [List.replicate_succ, List.flatten_cons]
    apply Array.ext'
    simp
theorem op_repS {X : Cx} : OpR X (binaryOp .Mult) (fun x y H Q => ∃ i j, x = .str i ∧ y = .int j ∧ i.length * j.toNat ≤ most ∧ j < 2 ^ 62 ∧ -(2 ^ 62) < j ∧ Q (.str (repS j.toNat i)) H) := by
  intro pins s σ H x y v u Q I rx ry h
  obtain ⟨i, j, rfl, rfl, hl, h1, h2, q⟩ := h
  obtain ⟨t, rfl⟩ := rx
  obtain ⟨t', rfl⟩ := ry
  refine PySem.P.mul_str (by rw [decide_eq_false (by omega), decide_eq_false (by omega)]; rfl) (fun n1 n2 => ?_) (fun n1 n2 => ?_) ?_
  · have hm : (i.length : Int) * j ≤ most := by
      have e1 : ((j.toNat : Nat) : Int) = j := Int.toNat_of_nonneg (by omega)
      have e2 : ((i.length * j.toNat : Nat) : Int) ≤ (most : Nat) := Int.ofNat_le.mpr hl
      rw [Int.natCast_mul, e1] at e2
      exact e2
    have hm2 : (most : Int) = 100000 := rfl
    have : (i.length : Int) ≤ (2 ^ 63 - 1) / j := (Int.le_ediv_iff_mul_le (by omega)).mpr (by omega)
    omega
  · show Builtin.Str.tooLong (i.length * j.toNat) = false
    unfold Builtin.Str.tooLong
    have := sz_of hl
    exact decide_eq_false (by omega)
  · split
    · rename_i hn
      have e0 : j.toNat = 0 := by omega
      rw [e0] at q
      exact ⟨by decide, .str _, H, I.tok _, ⟨_, rfl⟩, q⟩
    · rename_i hn
      split
      · rename_i hc
        simp only [Bool.or_eq_true, beq_iff_eq] at hc
        have e0 : repS j.toNat i = i := by
          rcases hc with hc | hc
          · subst hc
            show (⟨(repL 1 i.cps.toList).toArray⟩ : Str) = i
            rw [repL_one]
          · have : i.cps.toList = [] := by
              have hh : i.cps.size = 0 := hc
              exact List.eq_nil_of_length_eq_zero (by simpa using hh)
            show (⟨(repL j.toNat i.cps.toList).toArray⟩ : Str) = i
            obtain ⟨⟨l⟩⟩ := i
            have this : l = [] := this
            subst this
            rw [repL_nil]
        rw [e0] at q
        exact ⟨.str _, H, I, ⟨_, rfl⟩, q⟩
      · have e0 : (⟨(List.replicate j.toNat i.cps).foldl (· ++ ·) #[]⟩ : Str) = repS j.toNat i := by
          unfold repS
          rw [foldl_repS]
          simp
        rw [e0]
        refine ⟨?_, .str _, H, I.tok _, ⟨_, rfl⟩, q⟩
        have : (repS j.toNat i).length = i.length * j.toNat := by
          show (repL j.toNat i.cps.toList).toArray.size = _
          unfold repL
          simp [List.length_flatten]
          rw [Nat.mul_comm]; rfl
        rw [this]
        exact sz_of hl
def rMulA (K : PySem.W.Frag) : R2 := fun x y H Q => rI CMul (fun i j => .int (i * j)) x y H Q ∨ (∃ i j, x = .str i ∧ y = .int j ∧ i.length * j.toNat ≤ most ∧ j < 2 ^ 62 ∧ -(2 ^ 62) < j ∧ Q (.str (repS j.toNat i)) H) ∨ rRepA K x y H Q ∨ rRep x y H Q
theorem or_mul {X : Cx} : OpR X (binaryOp .Mult) (rMulA X.K) := OpR.or op_mul (OpR.or op_repS (OpR.or op_repA op_rep))
theorem o_mul : OpS S (rMulA S.K) (binU .mul) := fun H T e σ x y z v1 v2 Q f h k => by
  unfold binU mulU at h
  simp only at h
  split at h
  · split at h
    · rename_i hc
      cases h
      have e2 := f.dint
      have e1 := f.tail.dint
      subst e1 e2
      refine .inl ⟨_, _, rfl, rfl, ?_, k _ H f.tail.tail.int (Same.refl H)⟩
      unfold bMul at hc
      simp only [Bool.or_eq_true, Bool.and_eq_true, decide_eq_true_eq] at hc
      exact hc
    · cases h
  · split at h
    · rename_i hc
      cases h
      have e2 := f.dint
      have e1 := f.tail.dstr
      subst e1 e2
      exact .inr (.inl ⟨_, _, rfl, rfl, hc.1, hc.2.1, hc.2.2, k _ H f.tail.tail.str (Same.refl H)⟩)
    · cases h
  · split at h
    · rename_i xs j hc
      cases h
      have e2 := f.dint
      subst e2
      obtain ⟨a, vs, rfl, ha, d⟩ := tvD f.tail
      obtain ⟨D, dq⟩ := d.dq
      refine .inr (.inr (.inl ⟨a, j, vs, rfl, rfl, ha, hc.1, hc.2.1, by rw [dq.length]; exact hc.2.2, fun e => ?_, fun p hp => k _ _ ((d.map fun D h => h.rep j.toNat).newT hp) (same_new hp _)⟩))
      subst e
      have : xs = [] := by simpa using dq.length.symm
      subst this
      rw [repL_nil] at k
      exact k _ H f.tail (Same.refl H)
    · cases h
  · rename_i j n1 n2 n3
    split at h
    · rename_i a ha
      split at h
      · rename_i hc
        cases h
        have e2 := f.dint
        subst e2
        obtain ⟨p, vs, rfl, hp, d⟩ := lvD f.tail ha
        obtain ⟨D, dq⟩ := d.dq
        refine .inr (.inr (.inr ⟨p, j, vs, rfl, rfl, hp, by omega, by omega, sz_of (by rw [dq.length]; exact hc.1), fun p hp => k _ _ ((d.map fun D h => h.rep j.toNat).newL hp) (same_new hp _)⟩))
      · cases h
    · cases h
  · cases h
/-! ### slices -/
theorem dqL_cut {K : PySem.W.Frag} {D : Ban} {ds : List PyData} {vs : List V} (h : DqL K D H ds vs) (lo hi : Option Int) : DqL K D H (cutD ds lo hi) (cutV vs lo hi) := by
  unfold cutD cutV
  rw [h.length]
  exact (h.drop _).take _
theorem cutD_whole {xs : List PyData} {lo hi : Option Int} (h : HT.sIx xs.length 0 lo = 0 ∧ HT.sIx xs.length xs.length hi = xs.length) : cutD xs lo hi = xs := by
  unfold cutD
  rw [h.1, h.2, List.drop_zero, Nat.sub_zero, List.take_length]
def rSlX (K : PySem.W.Frag) : V → Option Int → Option Int → Hp → VK → Prop := fun x lo hi H Q => rSlL K x lo hi H Q ∨ rSlA K x lo hi H Q ∨ rSlS x lo hi H Q
theorem imp_o {X : Cx} {e : Option Expr} {t t' : TO} (h : PO X e t) (k : ∀ σ H Q, t' σ H Q → t σ H Q) : PO X e t' := ⟨fun pins s σ H Q I h' => h.run pins s σ H Q I (k σ H Q h')⟩
theorem p_none {X : Cx} : PO X none (lO S .none) := imp_o po_none fun σ H Q ⟨T, e, f, h⟩ => by
  rw [evo] at h
  exact h H f
theorem p_some {X : Cx} {a : Expr} {ca : CE} (ha : PE X a (lE S ca)) : PO X (some a) (lO S (.some ca)) := imp_o (po_some ha) fun σ H Q ⟨T, e, f, h⟩ => by
  rw [evo] at h
  refine ⟨T, e, f, out_mono (out_bd.mp h) (fun x e1 h1 v H1 f1 s1 => ?_) fun _ _ z => z⟩
  split at h1
  · exact ⟨_, f1.dint, h1 H1 f1.tail⟩
  · exact h1.elim
theorem s_slc {X : Cx} {a : Expr} {lo hi : Option Expr} {ca : CE} {cl ch : CO} {pos p2 : Pos} (hK : X.K = S.K) (ha : PE X a (lE S ca)) (hl : PO X lo (lO S cl)) (hh : PO X hi (lO S ch)) : PE X (.Subscript a (.Slice lo hi none p2) pos) (lE S (.slc ca cl ch)) :=
  imp_e (pe_slice (r := rSlX X.K) (SlR.or sl_list (SlR.or sl_tupA sl_str)) ha hl hh) fun σ H Q ⟨T, e, f, h⟩ => by
    rw [ev] at h
    refine ⟨T, e, f, out_mono (out_bd.mp h) (fun x e1 h1 v H1 f1 s1 => ⟨_, e1, f1, out_mono (out_bd.mp h1) (fun l e2 h2 H2 f2 => ⟨_, e2, f2, out_mono (out_bd.mp h2) (fun h' e3 h3 H3 f3 => ?_) xw_tail⟩) xw_tail⟩) fun _ _ z => z⟩
    obtain ⟨z, ez, k⟩ := out_lift h3
    rw [hK]
    have nq : ¬ (qt (.slc ca cl ch) = true) := by simp [qt]
    unfold slcU at ez
    split at ez
    · rename_i xs
      cases ez
      obtain ⟨D0, A0, _, a, ev, hs⟩ := f3.head
      subst ev
      have hi : ∀ (D : Ban) (xs : List Int), DqL S.K D H3 (xs.map .int) (xs.map V.int) := fun D xs => by
        induction xs with
        | nil => exact DqL.nil
        | cons x xs ih => exact DqL.cons (by unfold Dq; rfl) ih
      exact .inl ⟨a, xs.map V.int, rfl, hs.sq, fun p hp => k _ _ (Frm.one (T1 := []) f3.tail (fun L r => Rel.newL' r (fun A _ => dqL_cut (hi _ xs) _ _) hp) rfl) (sid fun q => absurd q nq)⟩
    · rename_i xs
      cases ez
      obtain ⟨a, vs, rfl, ha, d⟩ := tvD f3
      obtain ⟨D, dq⟩ := d.dq
      refine .inr (.inl ⟨a, vs, rfl, ha, fun hw => ?_, fun _ p hp => k _ _ ((d.map fun D h => dqL_cut h _ _).newT hp) (sid fun q => absurd q nq)⟩)
      rw [dq.length] at hw
      rw [cutD_whole hw] at k
      exact k _ H3 f3 (sid fun q => absurd q nq)
    · rename_i s
      split at ez
      · rename_i hl
        cases ez
        have := f3.dstr
        subst this
        exact .inr (.inr ⟨s, rfl, sz_of hl, k _ H3 f3.tail.str (sid fun q => absurd q nq)⟩)
      · cases ez
    · cases ex : lv e3 x with
      | none => rw [ex] at ez; cases ez
      | some xs =>
        rw [ex] at ez
        cases ez
        obtain ⟨a, vs, rfl, ha, d⟩ := lvD f3 ex
        exact .inl ⟨a, vs, rfl, SqL.of ha, fun p hp => k _ _ ((d.map fun D h => dqL_cut h _ _).newL hp) (sid fun q => absurd q nq)⟩
/-! ### turned round -/
def tRevA (K : PySem.W.Frag) (te : TE) : TE := fun σ H Q => te σ H fun x H1 => (∃ a xs, x = .ref a ∧ SqT K H1 a xs ∧ ∀ p, H1 p = none → Q (.ref p) (upd H1 p (.tup xs.reverse))) ∨ (∃ a xs, x = .ref a ∧ SqL K H1 a xs ∧ ∀ p, H1 p = none → Q (.ref p) (upd H1 p (.lst xs.reverse)))
theorem pe_revA {X : Cx} {e : Expr} {te : TE} {k : Nat} {p1 p2 p3 pos : Pos} (he : PE X e te) : PE X (.Subscript e (.Slice none none (some (.UnaryOp .USub (.Constant (.int 1) k p1) p2)) p3) pos) (tRevA X.K te) := by
  refine ⟨fun pins s σ H Q I h => ?_⟩
  refine Subscript_ (thn (he.run pins s σ H _ I h) fun v s1 ⟨x, H1, I1, r1, q1⟩ => ?_)
  have hst : PO X (some (.UnaryOp .USub (.Constant (.int 1) k p1) p2)) (tPart (tUn (rU fun i => .int (-i)) (tC (.int 1)))) := po_some (pe_un un_neg pe_int)
  refine wpAny_Slice (wpAny_pure ?_)
  refine wpAny_pure ?_
  refine thn (hst.run pins s1 σ H1 (fun o H4 => o = some (-1) ∧ H4 = H1) I1 ⟨1, rfl, -1, rfl, rfl, rfl⟩) fun vs s4 ⟨o, H4, I4, ps, eo, e4⟩ => ?_
  subst eo e4
  have I5 : Inv X pins σ H4 { s4 with heap := s4.heap.push { cls := .type "slice", data := .fields #[.none, .none, vs] } } := I4.kept (t' := s4.toks) fun b ob q => Heap.get?_push_of_some _ q
  rcases q1 with ⟨a, xs, ex, hx, q⟩ | ⟨a, xs, ex, hx, q⟩
  · subst ex
    cases r1
    obtain ⟨its, r, ht, hz⟩ := I5.tuple hx
    have hlen := r.length
    show wpAny (model X.prog X.w) X.A (subscriptTail e (.Slice none none (some (.UnaryOp .USub (.Constant (.int 1) k p1) p2)) p3) (.ref a) (.ref s4.heap.objs.size)) (EP X pins σ Q) X.xe { s4 with heap := s4.heap.push { cls := .type "slice", data := .fields #[.none, .none, vs] } }
    refine tail_any (ops := [.ref a, .ref s4.heap.objs.size]) ht.typeIs (PyProof.Rows.slot_tuple_getitem.lookup) ?_ (by with_unfolding_all rfl)
    refine getItem_tuple_rev ht (Heap.IsSliceOf.new _ .none .none vs) ps ?_ (by rw [List.size_toArray]; omega)
    refine ⟨.ref _, _, I5.laid (t' := s4.toks) (o := .tup xs.reverse) (fun b ob q => Heap.get?_push_of_some _ q) (Nat.le_refl _) ?_, rfl, q _ (I5.hok.fresh (Nat.le_refl _))⟩
    exact ⟨by rw [List.length_reverse]; exact hz, _, r.reverse, IsTup.new _ _⟩
  · subst ex
    cases r1
    obtain ⟨its, r, ht, hz⟩ := I5.list hx
    have hlen := r.length
    show wpAny (model X.prog X.w) X.A (subscriptTail e (.Slice none none (some (.UnaryOp .USub (.Constant (.int 1) k p1) p2)) p3) (.ref a) (.ref s4.heap.objs.size)) (EP X pins σ Q) X.xe { s4 with heap := s4.heap.push { cls := .type "slice", data := .fields #[.none, .none, vs] } }
    refine tail_any (ops := [.ref a, .ref s4.heap.objs.size]) ht.isList.typeIs (PySem.slot_list_getitem.lookup) ?_ (by with_unfolding_all rfl)
    refine wpAny_getItem_list_slice ht.isList (Heap.IsSliceOf.new _ .none .none vs) .none .none ps (by decide) ?_ (by rw [List.size_toArray]; omega)
    rw [PySem.W.krv_pick]
    refine ⟨.ref _, _, I5.laid (t' := s4.toks) (o := .lst xs.reverse) (fun b ob q => Heap.get?_push_of_some _ q) (Nat.le_refl _) ?_, rfl, q _ (I5.hok.fresh (Nat.le_refl _))⟩
    exact ⟨by rw [List.length_reverse]; exact hz, _, 0, r.reverse, Heap.get?_push_size _ rfl⟩
theorem s_rev {X : Cx} {a : Expr} {ca : CE} {k : Nat} {p1 p2 p3 pos : Pos} (hK : X.K = S.K) (ha : PE X a (lE S ca)) : PE X (.Subscript a (.Slice none none (some (.UnaryOp .USub (.Constant (.int 1) k p1) p2)) p3) pos) (lE S (.rev ca)) := imp_e (pe_revA ha) fun σ H Q ⟨T, e, f, h⟩ => by
  rw [ev] at h
  refine ⟨T, e, f, out_mono (out_bd.mp h) (fun x e1 h1 v H1 f1 s1 => ?_) fun _ _ z => z⟩
  obtain ⟨z, ez, k⟩ := out_lift h1
  have nq : ¬ (qt (.rev ca) = true) := by simp [qt]
  rw [hK]
  unfold revU at ez
  split at ez
  · cases ez
    obtain ⟨a, vs, rfl, ha, d⟩ := tvD f1
    exact .inl ⟨a, vs, rfl, ha, fun p hp => k _ _ ((d.map fun D h => h.reverse).newT hp) (sid fun q => absurd q nq)⟩
  · cases ex : lv e1 x with
    | none => rw [ex] at ez; cases ez
    | some xs =>
      rw [ex] at ez
      cases ez
      obtain ⟨a, vs, rfl, ha, d⟩ := lvD f1 ex
      exact .inr ⟨a, vs, rfl, SqL.of ha, fun p hp => k _ _ ((d.map fun D h => h.reverse).newL hp) (sid fun q => absurd q nq)⟩
end
end Fi
/-! Built-ins and methods by their values. -/
namespace Fi
open PySem PySem.Spec PyProof.Rows L2
section
variable {S : Sur} {H H' : Hp} {T : List (U × V)} {e : Env} {σ : L2.St} {u : U} {v : V} {xs ys : List PyData}
def CbS (S : Sur) (rr : List V → Hp → VK → Prop) (b : Bi) : Prop := ∀ (H : Hp) (T : List (U × V)) (e : Env) (σ : L2.St) (us : List U) (z : U) (vs : List V) (Q : VK), us.length = vs.length → S.fr H (us.zip vs ++ T) e σ → biU b e us = some z →
  (∀ v H1, S.fr H1 ((z, v) :: T) e σ → Same H H1 → Q v H1) → rr vs H Q
theorem cb_get {rr : List V → Hp → VK → Prop} {b : Bi} {cs : CEs} (hs : CbS S rr b) {Q : VK} (h : lE S (.bi b cs) σ H Q) : tCB rr (lA S cs) σ H Q := by
  obtain ⟨T, e, f, h⟩ := h
  rw [ev] at h
  refine ⟨T, e, f, out_mono (out_bd.mp h) (fun us e1 h1 vs H1 l f1 s1 => ?_) fun _ _ z => z⟩
  obtain ⟨z, ez, k⟩ := out_lift h1
  exact hs H1 T e1 σ us z vs Q l f1 ez fun v H2 f2 s2 => k v H2 f2 (sid fun q => (s1.1 (by rw [qt] at q; exact q)).trans s2)
theorem s_cb {X : Cx} {b : Bi} {id : String} {rr : List V → Hp → VK → Prop} {x : Str} {p pos : Pos} {a : Expr} {es : List Expr} {cs : CEs} (hc : CallR X (.builtin id) rr) (hs : CbS S rr b) (hg : Gl X x) (hm : X.mg x = none) (hv : bootBuiltins x = some (.builtin id)) (ha : PA X (a :: es) (lA S cs)) (hn : x ≠ "__name__") (hdb : (x == ("__debug__" : Str)) = false)
    (he : starEach (a :: es) X.env = (false, eval a X.env) :: starEach es X.env) (hpl : (backTo pos (starEach es X.env)).any (·.1) = false) : PE X (.Call (.Name x p) (a :: es) [] pos) (lE S (.bi b cs)) := imp_e (pe_callB hc hg hm hv ha hn hdb he hpl) fun _ _ _ h => cb_get hs h
theorem s_ct {X : Cx} {b : Bi} {T : String} {rr : List V → Hp → VK → Prop} {x : Str} {p pos : Pos} {a : Expr} {es : List Expr} {cs : CEs} (hc : CallR X (.type T) rr) (hs : CbS S rr b) (hg : Gl X x) (hm : X.mg x = none) (hv : bootBuiltins x = some (.type T)) (ha : PA X (a :: es) (lA S cs)) (hn : x ≠ "__name__") (hdb : (x == ("__debug__" : Str)) = false)
    (he : starEach (a :: es) X.env = (false, eval a X.env) :: starEach es X.env) (hpl : (backTo pos (starEach es X.env)).any (·.1) = false) : PE X (.Call (.Name x p) (a :: es) [] pos) (lE S (.bi b cs)) := imp_e (pe_callTy hc hg hm hv ha hn hdb he hpl) fun _ _ _ h => cb_get hs h
theorem CallR.or {X : Cx} {f : Value} {r1 r2 : List V → Hp → VK → Prop} (h1 : CallR X f r1) (h2 : CallR X f r2) : CallR X f (fun xs H Q => r1 xs H Q ∨ r2 xs H Q) := fun pins s σ H xs us Q I rv h => h.elim (h1 pins s σ H xs us Q I rv) (h2 pins s σ H xs us Q I rv)
/-- one argument -/
theorem biU_one {b : Bi} (hb : b ≠ .max2 ∧ b ≠ .min2) {us : List U} {z : U} (h : biU b e us = some z) : ∃ u, us = [u] := by
  rcases us with _ | ⟨u, _ | ⟨w, _ | ⟨y, r⟩⟩⟩
  · cases h
  · exact ⟨u, rfl⟩
  · exfalso
    have h : bi2 b u w = some z := h
    unfold bi2 at h
    split at h
    · cases b <;> first | exact hb.1 rfl | exact hb.2 rfl | cases h
    · cases h
  · cases h
theorem one_of {us : List U} {vs : List V} (l : us.length = vs.length) {u : U} (e1 : us = [u]) (f : S.fr H (us.zip vs ++ T) e σ) : ∃ v, vs = [v] ∧ S.fr H ((u, v) :: T) e σ := by
  subst e1
  match vs, l with
  | [v], _ => exact ⟨v, rfl, f⟩
def rLen2 (K : PySem.W.Frag) : List V → Hp → VK → Prop := fun xs H Q => (∃ p ys, xs = [.ref p] ∧ (SqL K H p ys ∨ SqT K H p ys) ∧ Q (.int ys.length) H) ∨ (∃ z, xs = [.str z] ∧ z.length ≤ sizeLine ∧ Q (.int z.length) H)
theorem cr_len {X : Cx} : CallR X (.builtin "len") (rLen2 X.K) := CallR.or call_len_seq call_len_str
theorem b_len : CbS S (rLen2 S.K) .len := fun H T e σ us z vs Q l f h k => by
  obtain ⟨u, rfl⟩ := biU_one ⟨by decide, by decide⟩ h
  obtain ⟨v, rfl, f⟩ := one_of l rfl f
  have h : (lenU e u).map (fun n => U.d (.int n)) = some z := h
  unfold lenU at h
  split at h
  · rename_i xs ex
    cases h
    obtain ⟨a, ws, rfl, hs, d⟩ := svD f ex
    obtain ⟨D, dq⟩ := d.dq
    refine .inl ⟨a, ws, rfl, hs, ?_⟩
    rw [dq.length]
    exact k _ H f.tail.int (Same.refl H)
  · split at h
    · rename_i s hn
      split at h
      · rename_i hl
        cases h
        have := f.dstr
        subst this
        exact .inr ⟨_, rfl, sz_of hl, k _ H f.tail.int (Same.refl H)⟩
      · cases h
    · cases h
def rTupOf (K : PySem.W.Frag) : List V → Hp → VK → Prop := fun xs H Q => ∃ p ys, xs = [.ref p] ∧ ((SqL K H p ys ∧ ∀ l, H l = none → Q (.ref l) (upd H l (.tup ys))) ∨ (SqT K H p ys ∧ Q (.ref p) H))
theorem b_tuple : CbS S (rTupOf S.K) .tuple := fun H T e σ us z vs Q l f h k => by
  obtain ⟨u, rfl⟩ := biU_one ⟨by decide, by decide⟩ h
  obtain ⟨v, rfl, f⟩ := one_of l rfl f
  unfold biU bi1 at h
  simp only at h
  split at h
  · cases h
    obtain ⟨a, ws, rfl, hs, d⟩ := tvD f
    exact ⟨a, ws, rfl, .inr ⟨hs, k _ H f (Same.refl H)⟩⟩
  · cases ex : lv e u with
    | none => rw [ex] at h; cases h
    | some xs =>
      rw [ex] at h
      cases h
      obtain ⟨a, ws, rfl, hs, d⟩ := lvD f ex
      exact ⟨a, ws, rfl, .inl ⟨SqL.of hs, fun p hp => k _ _ (d.newT hp) (same_new hp _)⟩⟩
def rLstOf (K : PySem.W.Frag) : List V → Hp → VK → Prop := fun xs H Q => ∃ p ys, xs = [.ref p] ∧ (SqL K H p ys ∨ SqT K H p ys) ∧ ∀ l, H l = none → Q (.ref l) (upd H l (.lst ys))
theorem b_list : CbS S (rLstOf S.K) .list := fun H T e σ us z vs Q l f h k => by
  obtain ⟨u, rfl⟩ := biU_one ⟨by decide, by decide⟩ h
  obtain ⟨v, rfl, f⟩ := one_of l rfl f
  have h : (sv e u).map nl = some z := h
  cases ex : sv e u with
  | none => rw [ex] at h; cases h
  | some xs =>
    rw [ex] at h
    cases h
    obtain ⟨a, ws, rfl, hs, d⟩ := svD f ex
    exact ⟨a, ws, rfl, hs, fun p hp => k _ _ (d.newL hp) (same_new hp _)⟩
theorem dqL_allB {K : PySem.W.Frag} {D : Ban} : ∀ {xs : List PyData} {vs : List V} {zs : List Bool}, DqL K D H xs vs → allB xs = some zs → vs = zs.map V.bl
  | [], _, _, h, e => by unfold DqL at h; cases e; exact h
  | x :: xs, vs, zs, h, e => by
    unfold DqL at h
    obtain ⟨v, r, rfl, h1, h2⟩ := h
    cases x with
    | bool b =>
      cases q : allB xs with
      | none => unfold allB at e; rw [q] at e; cases e
      | some cs =>
        unfold allB at e
        rw [q] at e
        cases e
        unfold Dq at h1
        subst h1
        rw [dqL_allB h2 q]
        rfl
    | _ => cases e
theorem dqL_allI {K : PySem.W.Frag} {D : Ban} : ∀ {xs : List PyData} {vs : List V} {zs : List Int}, DqL K D H xs vs → allI xs = some zs → vs = zs.map V.int
  | [], _, _, h, e => by unfold DqL at h; cases e; exact h
  | x :: xs, vs, zs, h, e => by
    unfold DqL at h
    obtain ⟨v, r, rfl, h1, h2⟩ := h
    cases x with
    | int b =>
      cases q : allI xs with
      | none => unfold allI at e; rw [q] at e; cases e
      | some cs =>
        unfold allI at e
        rw [q] at e
        cases e
        unfold Dq at h1
        subst h1
        rw [dqL_allI h2 q]
        rfl
    | _ => cases e
theorem bind_map {α β γ : Type} {o : Option α} {f : α → Option β} {g : β → γ} {z : γ} (h : (o.bind f).map g = some z) : ∃ x y, o = some x ∧ f x = some y ∧ z = g y := by
  cases o with
  | none => cases h
  | some x =>
    cases q : f x with
    | none =>
      have h : (f x).map g = some z := h
      rw [q] at h; cases h
    | some y =>
      have h : (f x).map g = some z := h
      rw [q] at h; cases h
      exact ⟨x, y, rfl, q, rfl⟩
theorem b_all : CbS S (rAll S.K) .all := fun H T e σ us z vs Q l f h k => by
  obtain ⟨u, rfl⟩ := biU_one ⟨by decide, by decide⟩ h
  obtain ⟨v, rfl, f⟩ := one_of l rfl f
  obtain ⟨xs, bs, ex, eb, rfl⟩ := bind_map h
  obtain ⟨a, ws, rfl, hs, d⟩ := lvD f ex
  obtain ⟨D, dq⟩ := d.dq
  have := dqL_allB dq eb
  subst this
  exact ⟨a, bs, rfl, SqL.of hs, k _ H f.tail.bl (Same.refl H)⟩
theorem b_any : CbS S (rAny S.K) .any := fun H T e σ us z vs Q l f h k => by
  obtain ⟨u, rfl⟩ := biU_one ⟨by decide, by decide⟩ h
  obtain ⟨v, rfl, f⟩ := one_of l rfl f
  obtain ⟨xs, bs, ex, eb, rfl⟩ := bind_map h
  obtain ⟨a, ws, rfl, hs, d⟩ := lvD f ex
  obtain ⟨D, dq⟩ := d.dq
  have := dqL_allB dq eb
  subst this
  exact ⟨a, bs, rfl, SqL.of hs, k _ H f.tail.bl (Same.refl H)⟩
theorem b_sum : CbS S (rSum S.K) .sum := fun H T e σ us z vs Q l f h k => by
  obtain ⟨u, rfl⟩ := biU_one ⟨by decide, by decide⟩ h
  obtain ⟨v, rfl, f⟩ := one_of l rfl f
  obtain ⟨xs, bs, ex, eb, rfl⟩ := bind_map h
  obtain ⟨a, ws, rfl, hs, d⟩ := lvD f ex
  obtain ⟨D, dq⟩ := d.dq
  have := dqL_allI dq eb
  subst this
  exact ⟨a, bs, rfl, SqL.of hs, k _ H f.tail.int (Same.refl H)⟩
theorem b_int : CbS S (fun xs H Q => (∃ i, xs = [.int i] ∧ Q (.int i) H) ∨ ∃ k, xs = [.bl k] ∧ Q (.int (if k then 1 else 0)) H) .int := fun H T e σ us z vs Q l f h k => by
  obtain ⟨u, rfl⟩ := biU_one ⟨by decide, by decide⟩ h
  obtain ⟨v, rfl, f⟩ := one_of l rfl f
  unfold biU bi1 at h
  simp only at h
  split at h
  · cases h
    have := f.dint
    subst this
    exact .inl ⟨_, rfl, k _ H f (Same.refl H)⟩
  · cases h
    have := f.dbl
    subst this
    exact .inr ⟨_, rfl, k _ H f.tail.int (Same.refl H)⟩
  · cases h
def rStr1 : List V → Hp → VK → Prop := fun xs H Q => (∃ i, xs = [.int i] ∧ i.natAbs.log2 < 1920 ∧ Q (.str (toString i)) H) ∨ ∃ a, xs = [.str a] ∧ Q (.str a) H
theorem call_str1 {X : Cx} : CallR X (.type "str") rStr1 := by
  intro pins s σ H xs us Q I r h
  rcases h with h | h
  · exact call_str_int pins s σ H xs us Q I r h
  · exact SkE.call_str_str pins s σ H xs us Q I r h
theorem b_str : CbS S rStr1 .str := fun H T e σ us z vs Q l f h k => by
  obtain ⟨u, rfl⟩ := biU_one ⟨by decide, by decide⟩ h
  obtain ⟨v, rfl, f⟩ := one_of l rfl f
  unfold biU bi1 at h
  simp only at h
  split at h
  · split at h
    · rename_i hl
      cases h
      have := f.dint
      subst this
      exact .inl ⟨_, rfl, hl, k _ H f.tail.str (Same.refl H)⟩
    · cases h
  · cases h
    have := f.dstr
    subst this
    exact .inr ⟨_, rfl, k _ H f.tail.str (Same.refl H)⟩
  · cases h
theorem two_ints {b : Bi} (hb : b = .max2 ∨ b = .min2) {us : List U} {z : U} (h : biU b e us = some z) : ∃ i j, us = [.d (.int i), .d (.int j)] := by
  rcases us with _ | ⟨u, _ | ⟨w, _ | ⟨y, r⟩⟩⟩
  · cases h
  · rcases hb with rfl | rfl <;> cases h
  · have h : bi2 b u w = some z := h
    unfold bi2 at h
    split at h
    · exact ⟨_, _, rfl⟩
    · cases h
  · cases h
theorem b_max2 : CbS S (fun xs H Q => ∃ i j, xs = [.int i, .int j] ∧ Q (.int (if j > i then j else i)) H) .max2 := fun H T e σ us z vs Q l f h k => by
  obtain ⟨i, j, rfl⟩ := two_ints (.inl rfl) h
  match vs, l with
  | [v1, v2], _ =>
    have f : S.fr H ((.d (.int i), v1) :: (.d (.int j), v2) :: T) e σ := f
    have e1 := f.dint
    have e2 := f.tail.dint
    subst e1 e2
    cases h
    exact ⟨i, j, rfl, k _ H f.tail.tail.int (Same.refl H)⟩
theorem b_min2 : CbS S (fun xs H Q => ∃ i j, xs = [.int i, .int j] ∧ Q (.int (if j < i then j else i)) H) .min2 := fun H T e σ us z vs Q l f h k => by
  obtain ⟨i, j, rfl⟩ := two_ints (.inr rfl) h
  match vs, l with
  | [v1, v2], _ =>
    have f : S.fr H ((.d (.int i), v1) :: (.d (.int j), v2) :: T) e σ := f
    have e1 := f.dint
    have e2 := f.tail.dint
    subst e1 e2
    cases h
    exact ⟨i, j, rfl, k _ H f.tail.tail.int (Same.refl H)⟩
/-! ### repr -/
def rShow (K : PySem.W.Frag) : List V → Hp → VK → Prop := fun xs H Q => ∃ (d : PyData) (v : V), xs = [v] ∧ Dq K B0 H d v ∧ d.showable = true ∧ d.depth ≤ 1000 ∧ d.shown.length ≤ sizeLine ∧ Q (.str d.shown) H
theorem cr_repr {X : Cx} (hg : X.A.guards = some []) (hu : X.A.units + 1100 < cLine) (hK : (X.K.lookup sysModules).isSome = true) : CallR X (.builtin "repr") (rShow X.K) := by
  intro pins s σ H xs us Q I rv h
  obtain ⟨d, a, rfl, hq, hs, hd, hz, q⟩ := h
  obtain ⟨u, rfl, ru⟩ := vals1 rv
  have at_ : ∀ {p : Addr}, u = .ref p → wpAny (model X.prog X.w) X.A (call (.builtin "repr") [u]) (EP X pins σ Q) X.xe s := fun {p} e => by
    subst e
    obtain ⟨as, r, hno⟩ := Dq.reads I (sysNone I hK) d _ _ hq ru
    exact PySem.repr_of_reads' r hs (fun _ => hno) hg (by omega) (fun _ _ e => e) (fun h' u tk hk => ⟨.str d.shown, H, I.kept (t' := tk) hk, ⟨u, rfl⟩, q⟩) hz
  cases d with
  | none => unfold Dq at hq; subst hq; cases ru; exact PySem.P.repr_of_none ⟨.str _, H, I.tok _, ⟨_, rfl⟩, q⟩
  | bool b => unfold Dq at hq; subst hq; cases ru; exact PySem.P.repr_of_bool ⟨.str _, H, I.tok _, ⟨_, rfl⟩, q⟩
  | int i => unfold Dq at hq; subst hq; obtain ⟨t, rfl⟩ := ru; exact PySem.P.repr_of_int (by simpa [PyData.showable] using hs) ⟨.str _, H, I.tok _, ⟨_, rfl⟩, q⟩
  | str x => unfold Dq at hq; subst hq; obtain ⟨t, rfl⟩ := ru; exact PySem.P.repr_of_str ⟨.str _, H, I.tok _, ⟨_, rfl⟩, q⟩ hz
  | list ds => unfold Dq at hq; obtain ⟨p, vs, rfl, _⟩ := hq; cases ru; exact at_ rfl
  | tuple ds => unfold Dq at hq; obtain ⟨p, vs, rfl, _⟩ := hq; cases ru; exact at_ rfl
  | dict ds => unfold Dq at hq; obtain ⟨p, rfl, _⟩ := hq; cases ru; exact at_ rfl
theorem b_repr : CbS S (rShow S.K) .repr := fun H T e σ us z vs Q l f h k => by
  obtain ⟨u, rfl⟩ := biU_one ⟨by decide, by decide⟩ h
  obtain ⟨v, rfl, f⟩ := one_of l rfl f
  unfold biU bi1 at h
  simp only at h
  split at h
  · rename_i d hd
    split at h
    · rename_i hc
      cases h
      simp only [Bool.and_eq_true, decide_eq_true_eq] at hc
      exact ⟨d, v, rfl, dvE f hd, hc.1.1, hc.1.2, Nat.le_trans hc.2 (by rw [PySem.sizeLine_eq]; decide), k _ H f.tail.str (Same.refl H)⟩
    · cases h
  · cases h
end
end Fi
/-! What is walked, targets, comprehensions. -/
namespace Fi
open PySem PySem.Spec PyProof.Rows L2
def Sur.inn (S : Sur) : Sur := { S with pv := [], W := fun _ _ _ _ => False }
def noB (T : List (U × V)) : List (U × V) := T.filter fun p => !isB p.1
theorem noB_mem {T : List (U × V)} {i : Nat} {v : V} : (U.b i, v) ∉ noB T := fun h => by
  have h2 : (!isB (U.b i)) = true := (List.mem_filter.mp h).2
  cases h2
section
variable {K : PySem.W.Frag} {fa : Nat → Addr} {D : Ban} {H H' : Hp}
theorem RL.noB : ∀ {T M : List (U × V)} {A : List Addr}, RL K fa D H (T ++ M) A ↔ RL K fa D H (Fi.noB T ++ M) A
  | [], M, A => Iff.rfl
  | (u, v) :: T, M, A => by
    cases hb : isB u with
    | false =>
      have e : Fi.noB ((u, v) :: T) = (u, v) :: Fi.noB T := by unfold Fi.noB; rw [List.filter_cons, if_pos (by simp [hb])]
      rw [e]
      exact ⟨fun ⟨A1, A2, e, h1, h2⟩ => ⟨A1, A2, e, h1, RL.noB.mp h2⟩, fun ⟨A1, A2, e, h1, h2⟩ => ⟨A1, A2, e, h1, RL.noB.mpr h2⟩⟩
    | true =>
      have e : Fi.noB ((u, v) :: T) = Fi.noB T := by unfold Fi.noB; rw [List.filter_cons, if_neg (by simp [hb])]
      rw [e]
      cases u with
      | b i =>
        refine ⟨fun ⟨A1, A2, e, h1, h2⟩ => ?_, fun h => ⟨[], A, rfl, rfl, RL.noB.mpr h⟩⟩
        have h1 : A1 = [] := h1
        subst h1
        rw [e]
        exact RL.noB.mp h2
      | _ => cases hb
theorem Rel.noB {T M : List (U × V)} : Rel K fa H (T ++ M) ↔ Rel K fa H (Fi.noB T ++ M) := ⟨fun ⟨A, n, h⟩ => ⟨A, n, RL.noB.mp h⟩, fun ⟨A, n, h⟩ => ⟨A, n, RL.noB.mpr h⟩⟩
end
theorem fl_wipe (σ : L2.St) : ∀ (vs : List Nat) (e : Env), (∀ i ∈ vs, e[i]? = none ∨ e[i]? = some none) → fl e (wipe σ vs) = fl e σ
  | [], e, _ => rfl
  | v :: vs, e, h => by
    show fl e ((wipe σ vs).set v none) = _
    have ih := fl_wipe σ vs e fun i hi => h i (List.mem_cons_of_mem _ hi)
    rcases h v List.mem_cons_self with h1 | h1
    · rw [← ih]
      have : ∀ (e : Env) (s : L2.St) (v : Nat), e[v]? = none → fl e (s.set v none) = fl e s := fun e => by
        induction e with
        | nil => intro s v _; cases s <;> rfl
        | cons a e ih2 =>
          intro s v hv
          cases v with
          | zero => simp at hv
          | succ v =>
            cases s with
            | nil => rfl
            | cons b s =>
              rw [List.set_cons_succ]
              have := ih2 s v (by simpa using hv)
              cases a with
              | none => exact this
              | some a =>
                cases b with
                | none => exact this
                | some b => show (a, b) :: _ = (a, b) :: _; rw [this]
      exact this e _ v h1
    · rw [fl_none h1, ih]
theorem wipeE_none : ∀ {vs : List Nat} {e : Env} {i : Nat}, i ∈ vs → (wipeE e vs)[i]? = none ∨ (wipeE e vs)[i]? = some none
  | v :: vs, e, i, h => by
    unfold wipeE
    by_cases q : v = i
    · subst q
      cases Nat.lt_or_ge v (wipeE e vs).length with
      | inl h2 => exact .inr (List.getElem?_set_self h2)
      | inr h2 => exact .inl (List.getElem?_eq_none_iff.mpr (by rw [List.length_set]; exact h2))
    · rw [List.getElem?_set_ne q]
      rcases List.mem_cons.mp h with z | z
      · exact absurd z.symm q
      · exact wipeE_none z
theorem wipeE_len (e : Env) : ∀ vs : List Nat, (wipeE e vs).length = e.length
  | [] => rfl
  | v :: vs => by unfold wipeE; rw [List.length_set, wipeE_len e vs]
theorem wipeE_some {e : Env} {i : Nat} {u : U} : ∀ {vs : List Nat}, (wipeE e vs)[i]? = some (some u) → e[i]? = some (some u) ∧ i ∉ vs
  | [], h => ⟨h, by simp⟩
  | v :: vs, h => by
    unfold wipeE at h
    by_cases q : v = i
    · subst q
      cases Nat.lt_or_ge v (wipeE e vs).length with
      | inl h2 => rw [List.getElem?_set_self h2] at h; cases h
      | inr h2 => rw [List.getElem?_eq_none_iff.mpr (by rw [List.length_set]; exact h2)] at h; cases h
    · rw [List.getElem?_set_ne q] at h
      obtain ⟨h1, h2⟩ := wipeE_some h
      exact ⟨h1, fun z => (List.mem_cons.mp z).elim (fun z => q z.symm) h2⟩
section
variable {S : Sur} {H H' : Hp} {T : List (U × V)} {e : Env} {σ : L2.St} {u : U} {v : V} {xs ys : List PyData}
/-- a slot is forgotten -/
theorem Frm.forget {i : Nat} (f : S.fr H T e σ) : S.fr H T (e.set i none) σ := by
  cases hi : e[i]? with
  | none =>
    have : e.set i none = e := List.ext_getElem? fun j => by
      by_cases q : i = j
      · subst q
        rw [List.getElem?_eq_none_iff] at hi
        rw [List.getElem?_eq_none_iff.mpr (by rw [List.length_set]; exact hi), List.getElem?_eq_none_iff.mpr hi]
      · rw [List.getElem?_set_ne q]
    rw [this]; exact f
  | some x =>
    cases x with
    | none =>
      have : e.set i none = e := List.ext_getElem? fun j => by
        by_cases q : i = j
        · subst q; rw [set_get hi, hi]
        · rw [List.getElem?_set_ne q]
      rw [this]; exact f
    | some u =>
      obtain ⟨v, hv⟩ := f.has i u hi
      have p := fl_take hi hv
      refine ⟨?_, by rw [List.length_set]; exact f.len, fun j w hj => ?_, f.bo, f.pr⟩
      · exact (f.rel.perm ((List.Perm.append_left T p).trans List.perm_middle)).tail
      · by_cases q : i = j
        · subst q; rw [set_get hi] at hj; cases hj
        · rw [List.getElem?_set_ne q] at hj; exact f.has j w hj
theorem Frm.wiped (f : S.fr H T e σ) : ∀ vs : List Nat, S.fr H T (wipeE e vs) σ
  | [] => f
  | v :: vs => (Frm.wiped f vs).forget
/-- into a block -/
theorem Frm.toBlk (f : S.fr H T e σ) (vs : List Nat) : S.inn.fr H (noB T) (wipeE e vs) (wipe σ vs) := by
  have g := f.wiped vs
  refine ⟨?_, by rw [g.len, wipe_length], fun i u h => ?_, fun i v m => absurd m noB_mem, fun p hp => by cases hp⟩
  · rw [fl_wipe σ vs _ fun i hi => wipeE_none hi]
    exact Rel.noB.mp g.rel
  · obtain ⟨v, hv⟩ := g.has i u h
    have hn := (wipeE_some h).2
    refine ⟨v, ?_⟩
    have : ∀ vs : List Nat, i ∉ vs → (wipe σ vs)[i]? = σ[i]? := fun vs => by
      induction vs with
      | nil => intro _; rfl
      | cons w ws ih =>
        intro hw
        show ((wipe σ ws).set w none)[i]? = _
        rw [List.getElem?_set_ne (fun z => hw (by rw [z]; exact List.mem_cons_self)), ih fun z => hw (List.mem_cons_of_mem _ z)]
    rw [this vs hn]
    exact hv
/-- .. and back: the new things ahead, the frame's own facts as before -/
theorem Frm.ofBlk {H0 : Hp} {e0 : Env} {T1 : List (U × V)} {σ2 : L2.St} {vs : List Nat} (f0 : S.fr H0 T e0 σ) (f : S.inn.fr H (T1 ++ noB T) e σ2) (hw : wipe σ2 vs = wipe σ vs) (nb : ∀ i v, (U.b i, v) ∉ T1) : S.fr H (T1 ++ T) (wipeE e vs) σ := by
  have g := f.wiped vs
  have hl : σ2.length = σ.length := by rw [← wipe_length σ2 vs, hw, wipe_length]
  refine ⟨?_, by rw [g.len, hl], fun i u h => ?_, fun i v m => ?_, f0.pr⟩
  · have r := g.rel
    rw [← fl_wipe σ2 vs _ fun i hi => wipeE_none hi, hw, fl_wipe σ vs _ fun i hi => wipeE_none hi] at r
    have r2 : Rel S.K S.fa H (T1 ++ noB T ++ fl (wipeE e vs) σ) := r
    have p1 : (T1 ++ noB T ++ fl (wipeE e vs) σ).Perm (noB T ++ (T1 ++ fl (wipeE e vs) σ)) := by
      rw [List.append_assoc]
      exact List.perm_append_comm_assoc _ _ _
    have p2 : (T ++ (T1 ++ fl (wipeE e vs) σ)).Perm (T1 ++ T ++ fl (wipeE e vs) σ) := by
      rw [List.append_assoc]
      exact List.perm_append_comm_assoc _ _ _
    exact (Rel.noB.mpr (r2.perm p1)).perm p2
  · obtain ⟨v, hv⟩ := g.has i u h
    refine ⟨v, ?_⟩
    have hn := (wipeE_some h).2
    have : ∀ (τ : L2.St) (vs : List Nat), i ∉ vs → (wipe τ vs)[i]? = τ[i]? := fun τ vs => by
      induction vs with
      | nil => intro _; rfl
      | cons w ws ih =>
        intro hw
        show ((wipe τ ws).set w none)[i]? = _
        rw [List.getElem?_set_ne (fun z => hw (by rw [z]; exact List.mem_cons_self)), ih fun z => hw (List.mem_cons_of_mem _ z)]
    rw [← this σ vs hn, ← hw, this σ2 vs hn]
    exact hv
  · rcases List.mem_append.mp m with m | m
    · exact absurd m (nb i v)
    · exact f0.bo i v m
/-! ### targets -/
/-- a slot takes a value -/
theorem Frm.setS {i : Nat} (f : S.fr H ((u, v) :: T) e σ) (nb : ∀ j w, (U.b j, w) ∉ T) (np : ∀ p ∈ S.pv, p.1 ≠ i) (ub : isB u = false) : S.fr H T (e.set i (some u)) (σ.set i (some v)) := by
  cases Nat.lt_or_ge i e.length with
  | inr h =>
    rw [List.set_eq_of_length_le h, List.set_eq_of_length_le (by rw [← f.len]; exact h)]
    exact f.tail
  | inl h =>
    have g : S.fr H ((u, v) :: T) (e.set i none) σ := f.forget
    have h1 : (e.set i none)[i]? = some none := List.getElem?_set_self h
    have hs : i < σ.length := by rw [← f.len]; exact h
    have g2 : S.fr H ((u, v) :: T) (e.set i none) (σ.set i (some v)) := by
      refine ⟨?_, by rw [List.length_set, List.length_set]; exact f.len, fun j w hj => ?_, fun j w m => ?_, fun p hp => ?_⟩
      · rw [fl_none h1]; exact g.rel
      · by_cases q : i = j
        · subst q; rw [h1] at hj; cases hj
        · rw [List.getElem?_set_ne q]; exact g.has j w hj
      · rcases List.mem_cons.mp m with z | z
        · cases z; cases ub
        · exact absurd z (nb j w)
      · rw [List.getElem?_set_ne (fun z => np p hp z.symm)]; exact f.pr p hp
    have g3 := g2.push h1 (List.getElem?_set_self hs)
    rw [List.set_set] at g3
    exact g3
mutual
def CT.is : CT → List Nat
  | .name i => [i]
  | .tup ts => CT.isL ts
def CT.isL : List CT → List Nat
  | [] => []
  | t :: ts => t.is ++ CT.isL ts
end
def lG (S : Sur) (t : CT) : TG := fun v σ H Q => ∃ T e x, S.fr H ((.d x, v) :: T) e σ ∧ (∀ j w, (U.b j, w) ∉ T) ∧ (∀ i ∈ t.is, ∀ p ∈ S.pv, p.1 ≠ i) ∧ ∃ e', setT t x e = some e' ∧ ∀ σ', S.fr H T e' σ' → (∀ vs, (∀ i ∈ t.is, i ∈ vs) → wipe σ' vs = wipe σ vs) → Q σ' H
def lGs (S : Sur) (ts : List CT) : TGs := fun ws σ H Q => ∃ T e xs, ws.length = xs.length ∧ S.fr H (ent xs ws ++ T) e σ ∧ (∀ j w, (U.b j, w) ∉ T) ∧ (∀ i ∈ CT.isL ts, ∀ p ∈ S.pv, p.1 ≠ i) ∧ ∃ e', setT.setTs ts xs e = some e' ∧ ∀ σ', S.fr H T e' σ' → (∀ vs, (∀ i ∈ CT.isL ts, i ∈ vs) → wipe σ' vs = wipe σ vs) → Q σ' H
theorem set_comm' {α : Type} (l : List α) {i j : Nat} (x y : α) (h : i ≠ j) : (l.set i x).set j y = (l.set j y).set i x := List.set_comm _ _ h
theorem wipe_set (σ : L2.St) (i : Nat) (x : Option V) : ∀ (vs : List Nat), i ∈ vs → wipe (σ.set i x) vs = wipe σ vs
  | [], h => by cases h
  | w :: vs, h => by
    show (wipe (σ.set i x) vs).set w none = (wipe σ vs).set w none
    by_cases h2 : i ∈ vs
    · rw [wipe_set σ i x vs h2]
    · have hw : i = w := (List.mem_cons.mp h).resolve_right h2
      subst hw
      have : ∀ ws : List Nat, i ∉ ws → wipe (σ.set i x) ws = (wipe σ ws).set i x := fun ws => by
        induction ws with
        | nil => intro _; rfl
        | cons z zs ih =>
          intro hz
          show (wipe (σ.set i x) zs).set z none = ((wipe σ zs).set z none).set i x
          rw [ih (fun q => hz (List.mem_cons_of_mem _ q)), set_comm' _ _ _ (fun q : i = z => hz (q ▸ List.mem_cons_self))]
      rw [this vs h2, List.set_set]
section
variable {X : Cx} {tg : Expr} {es : List Expr} {t : CT} {ts : List CT} {pos : Pos}
theorem imp_g {e : Expr} {t t' : TG} (h : PG X e t) (k : ∀ v σ H Q, t' v σ H Q → t v σ H Q) : PG X e t' := ⟨fun pins s σ H v u Q I r h' => h.run pins s σ H v u Q I r (k v σ H Q h')⟩
theorem imp_gs {t t' : TGs} (h : PGs X es t) (k : ∀ v σ H Q, t' v σ H Q → t v σ H Q) : PGs X es t' := ⟨fun pins s σ H v u Q I r h' => h.run pins s σ H v u Q I r (k v σ H Q h')⟩
theorem g_name {i : Nat} {x : Str} (h : PG X (.Name x pos) (gName i)) : PG X (.Name x pos) (lG S (.name i)) := imp_g h fun v σ H Q ⟨T, e, x, f, nb, np, e', he, k⟩ => by
  unfold setT at he
  cases he
  exact k _ (f.setS nb (fun p hp => np i (by simp [CT.is]) p hp) rfl) fun vs hv => wipe_set _ _ _ vs (hv i (by simp [CT.is]))
theorem g_nil : PGs X [] (lGs S []) := imp_gs pgs_nil fun v σ H Q ⟨T, e, xs, l, f, nb, np, e', he, k⟩ => by
  cases xs with
  | nil =>
    unfold setT.setTs at he
    cases he
    exact ⟨by simpa using l, k σ f fun _ _ => rfl⟩
  | cons x xs => unfold setT.setTs at he; cases he
theorem g_cons (h1 : PG X tg (lG S t)) (h2 : PGs X es (lGs S ts)) (hs : (assignEach (tg :: es) X.env).map (·.2) = assign tg X.env :: (assignEach es X.env).map (·.2)) : PGs X (tg :: es) (lGs S (t :: ts)) := imp_gs (pgs_cons h1 h2 hs) fun v σ H Q ⟨T, e, xs, l, f, nb, np, e', he, k⟩ => by
  cases xs with
  | nil => unfold setT.setTs at he; cases he
  | cons x xs =>
    cases v with
    | nil => cases l
    | cons w ws =>
      unfold setT.setTs at he
      cases q : setT t x e with
      | none => rw [q] at he; cases he
      | some e1 =>
        rw [q] at he
        have he : setT.setTs ts xs e1 = some e' := he
        have f : S.fr H ((.d x, w) :: (ent xs ws ++ T)) e σ := f
        have nb2 : ∀ j w, (U.b j, w) ∉ ent xs ws ++ T := fun j w m => by
          rcases List.mem_append.mp m with m | m
          · have := (List.of_mem_zip (show (U.b j, w) ∈ (xs.map U.d).zip ws from m)).1
            rw [List.mem_map] at this
            obtain ⟨x, _, z⟩ := this
            cases z
          · exact nb j w m
        refine ⟨w, ws, rfl, _, e, x, f, nb2, fun i hi => np i (List.mem_append_left _ hi), e1, q, fun σ1 f1 hw1 => ?_⟩
        refine ⟨T, e1, xs, by simpa using l, f1, nb, fun i hi => np i (List.mem_append_right _ hi), e', he, fun σ2 f2 hw2 => k σ2 f2 fun vs hv => ?_⟩
        rw [hw2 vs fun i hi => hv i (List.mem_append_right _ hi), hw1 vs fun i hi => hv i (List.mem_append_left _ hi)]
theorem setTs_len : ∀ {ts : List CT} {xs : List PyData} {e e' : Env}, setT.setTs ts xs e = some e' → xs.length = ts.length
  | [], [], _, _, _ => rfl
  | [], _ :: _, _, _, h => by unfold setT.setTs at h; cases h
  | _ :: _, [], _, _, h => by unfold setT.setTs at h; cases h
  | t :: ts, x :: xs, e, e', h => by
    unfold setT.setTs at h
    cases q : setT t x e with
    | none => rw [q] at h; cases h
    | some e1 =>
      rw [q] at h
      have h : setT.setTs ts xs e1 = some e' := h
      simp [setTs_len h]
theorem g_tup {k : Nat} (hK : X.K = S.K) (hc : X.calm = true) (h : PGs X es (lGs S ts)) (hn : (assignEach es X.env).length = ts.length) (hst : (assignEach es X.env).findIdx? (·.1) = none) : PG X (.Tuple es k pos) (lG S (.tup ts)) := imp_g (pg_tup hc h hn hst) fun v σ H Q ⟨T, e, x, f, nb, np, e', he, k⟩ => by
  cases x with
  | tuple xs =>
    unfold setT at he
    obtain ⟨a, vs, rfl, ha, l, g⟩ := tvE f
    rw [hK]
    exact ⟨a, vs, rfl, ha, by rw [l, setTs_len he], T, e, xs, l, g, nb, np, e', he, k⟩
  | _ => unfold setT at he; cases he
end
end
end Fi
/-! Walks and comprehensions. -/
namespace Fi
open PySem PySem.Spec PyProof.Rows L2
section
variable {X : Cx} {tg : Expr} {pins : List (Addr × Obj)} {σ : L2.St} {H : Hp} {s : Shared}
theorem young (I : Inv X pins σ H s) : ∀ b ∈ [s.heap.objs.size], FpOk X pins H b := fun b hb => by
  rw [List.mem_singleton.mp hb]
  exact I.fpOk (Nat.le_refl _) (I.hok.fresh (Nat.le_refl _))
theorem at_list {a : Addr} {vs : List V} {R : It → Hp → Prop} (I : Inv X pins σ H s) (h : SqL X.K H a vs) (q : R (Itl X.K a) H) : wpAny (model X.prog X.w) X.A (pyIter (.ref a)) (PIE X pins σ tg R) X.xe s := by
  obtain ⟨its, _, pl, _⟩ := I.list h
  exact wpAny_pyIter_list pl.isList ⟨_, _, _, _, H, rfl, I.kept (t' := s.toks) fun _ _ e => Heap.get?_push_of_some _ e, turn_list a _, ⟨_, Heap.get?_push_size _ rfl, rfl, rfl⟩, young I, q⟩
theorem at_tup {a : Addr} {vs : List V} {R : It → Hp → Prop} (I : Inv X pins σ H s) (h : SqT X.K H a vs) (q : R (Itt X.K a) H) : wpAny (model X.prog X.w) X.A (pyIter (.ref a)) (PIE X pins σ tg R) X.xe s := by
  obtain ⟨its, _, pl, _⟩ := I.tuple h
  exact wpAny_pyIter_tuple (items := its.toArray) pl ⟨_, _, _, _, H, rfl, I.kept (t' := s.toks) fun _ _ e => Heap.get?_push_of_some _ e, turn_tuple a _, ⟨_, Heap.get?_push_size _ rfl, rfl, rfl⟩, young I, q⟩
theorem at_str {z : Str} {R : It → Hp → Prop} {v : Value} (I : Inv X pins σ H s) (r : RelV (.str z) v) (q : R (Its z) H) : wpAny (model X.prog X.w) X.A (pyIter v) (PIE X pins σ tg R) X.xe s := by
  obtain ⟨t, rfl⟩ := r
  cases hz : z.cps.all (· < 128) with
  | true => exact wpAny_pyIter_ascii hz (pi_one (tk := s.toks) I _ (turn_str _ z t "str_ascii_iterator" (.inl rfl)) ⟨_, Heap.get?_push_size _ rfl, rfl, rfl⟩ q)
  | false => exact wpAny_pyIter_wide hz (pi_one (tk := s.toks) I _ (turn_str _ z t "str_iterator" (.inr rfl)) ⟨_, Heap.get?_push_size _ rfl, rfl, rfl⟩ q)
def iSeq (K : PySem.W.Frag) (tl : TE) : TI := fun σ H R => tl σ H fun x H1 => (∃ z, x = .str z ∧ R (Its z) H1) ∨ ∃ a vs, x = .ref a ∧ ((SqL K H1 a vs ∧ R (Itl K a) H1) ∨ (SqT K H1 a vs ∧ R (Itt K a) H1))
theorem pi_seq {l : Expr} {tl : TE} (hl : PE X l tl) : PI X tg l (iSeq X.K tl) := ⟨fun pins s σ H R I h => thn (hl.run pins s σ H _ I h) fun v s1 ⟨x, H1, I1, r1, q⟩ => by
  rcases q with ⟨z, ex, q⟩ | ⟨a, vs, ex, q⟩
  · subst ex
    exact at_str I1 r1 q
  · subst ex
    have r1 : v = .ref a := r1
    subst r1
    rcases q with ⟨h1, q⟩ | ⟨h1, q⟩
    · exact at_list I1 h1 q
    · exact at_tup I1 h1 q⟩
end
/-- what a walk over these items is, as long as T1 stands -/
structure ItS (S : Sur) (J : It) (xs : List PyData) (T1 : List (U × V)) : Prop where
  go : ∀ {W : WX} {pv : List (Nat × V)} {H : Hp} {T : List (U × V)} {e : Env} {σ : L2.St} {i : Nat}, Frm S.K S.fa pv H (T1 ++ T) e σ → i < xs.length → J.go i H
  st : ∀ {pv : List (Nat × V)} {H : Hp} {T : List (U × V)} {e : Env} {σ : L2.St} {i : Nat}, Frm S.K S.fa pv H (T1 ++ T) e σ → xs.length ≤ i → J.stop i H
  yl : ∀ {pv : List (Nat × V)} {H H' : Hp} {T : List (U × V)} {e : Env} {σ : L2.St} {i : Nat} {v : V}, Frm S.K S.fa pv H (T1 ++ T) e σ → i < xs.length → J.yld i H v H' → ∃ x, xs[i]? = some x ∧ Frm S.K S.fa pv H' ((.d x, v) :: (T1 ++ T)) e σ
  nb : ∀ i v, (U.b i, v) ∉ T1
def lI (S : Sur) (c : CI) : TI := fun σ H R => ∃ T e, S.fr H T e σ ∧ out (evi S.F c e) (fun xs e1 => ∀ J H1 T1, ItS S J xs T1 → S.fr H1 (T1 ++ T) e1 σ → R J H1) (xw S T σ)
section
variable {S : Sur} {H H' : Hp} {T : List (U × V)} {e : Env} {σ : L2.St} {u : U} {v : V} {xs ys : List PyData}
theorem evC {K : PySem.W.Frag} {fa : Nat → Addr} {pv : List (Nat × V)} (f : Frm K fa pv H T e σ) : Sur.fr ⟨K, fun _ => none, fa, pv, fun _ _ => .no, fun _ _ _ _ => False⟩ H T e σ := f
theorem its_list {a : Addr} : ItS S (Itl S.K a) xs [(.d (.list xs), .ref a)] := by
  have at_ : ∀ {pv : List (Nat × V)} {H : Hp} {T : List (U × V)} {e : Env} {σ : L2.St}, Frm S.K S.fa pv H ([(.d (.list xs), .ref a)] ++ T) e σ → ∃ vs, H a = some (.lst vs) ∧ vs.length = xs.length ∧ Frm S.K S.fa pv H (ent xs vs ++ ([(.d (.list xs), .ref a)] ++ T)) e σ := fun {pv H T e σ} f => by
    have f2 : Frm S.K S.fa pv H ((.d (.list xs), .ref a) :: (.d (.list xs), .ref a) :: T) e σ := Frm.dup f trivial
    obtain ⟨a', vs, e1, h1, l, g⟩ := lvE (S := ⟨S.K, fun _ => none, S.fa, pv, fun _ _ => .no, fun _ _ _ _ => False⟩) f2 (xs := xs) rfl
    cases e1
    exact ⟨vs, h1, l, g⟩
  refine ⟨fun {W pv H T e σ i} f hi => ?_, fun {pv H T e σ i} f hi => ?_, fun {pv H H' T e σ i v} f hi ⟨e1, h⟩ => ?_, fun i v m => by simp at m⟩
  · obtain ⟨vs, h1, l, _⟩ := at_ f
    exact ⟨vs, vs[i]'(by omega), SqL.of h1, List.getElem?_eq_getElem (by omega)⟩
  · obtain ⟨vs, h1, l, _⟩ := at_ f
    exact ⟨vs, SqL.of h1, by omega⟩
  · subst e1
    obtain ⟨vs, h1, l, g⟩ := at_ f
    have hv := h vs (SqL.of h1)
    have d := FD.of (S := ⟨S.K, fun _ => none, S.fa, pv, fun _ _ => .no, fun _ _ _ _ => False⟩) g l
    have hx : xs[i]? = some (xs[i]'hi) := List.getElem?_eq_getElem hi
    exact ⟨_, hx, d.item hx hv⟩
theorem its_tup {a : Addr} : ItS S (Itt S.K a) xs [(.d (.tuple xs), .ref a)] := by
  have at_ : ∀ {pv : List (Nat × V)} {H : Hp} {T : List (U × V)} {e : Env} {σ : L2.St}, Frm S.K S.fa pv H ([(.d (.tuple xs), .ref a)] ++ T) e σ → ∃ vs, SqT S.K H a vs ∧ vs.length = xs.length ∧ Frm S.K S.fa pv H (ent xs vs ++ ([(.d (.tuple xs), .ref a)] ++ T)) e σ := fun {pv H T e σ} f => by
    have f2 : Frm S.K S.fa pv H ((.d (.tuple xs), .ref a) :: (.d (.tuple xs), .ref a) :: T) e σ := Frm.dup f trivial
    obtain ⟨a', vs, e1, h1, l, g⟩ := tvE (S := ⟨S.K, fun _ => none, S.fa, pv, fun _ _ => .no, fun _ _ _ _ => False⟩) f2
    cases e1
    exact ⟨vs, h1, l, g⟩
  refine ⟨fun {W pv H T e σ i} f hi => ?_, fun {pv H T e σ i} f hi => ?_, fun {pv H H' T e σ i v} f hi ⟨e1, h⟩ => ?_, fun i v m => by simp at m⟩
  · obtain ⟨vs, h1, l, _⟩ := at_ f
    exact ⟨vs, vs[i]'(by omega), h1, List.getElem?_eq_getElem (by omega)⟩
  · obtain ⟨vs, h1, l, _⟩ := at_ f
    exact ⟨vs, h1, by omega⟩
  · subst e1
    obtain ⟨vs, h1, l, g⟩ := at_ f
    have hv := h vs h1
    have d := FD.of (S := ⟨S.K, fun _ => none, S.fa, pv, fun _ _ => .no, fun _ _ _ _ => False⟩) g l
    have hx : xs[i]? = some (xs[i]'hi) := List.getElem?_eq_getElem hi
    exact ⟨_, hx, d.item hx hv⟩
theorem rngL_length (lo : Int) (n : Nat) : (rngL lo n).length = n := by unfold rngL; simp
theorem its_rng {lo : Int} {n : Nat} : ItS S (Itr lo n) (rngL lo n) [] := by
  refine ⟨fun {W pv H T e σ i} f hi => ?_, fun {pv H T e σ i} f hi => ?_, fun {pv H H' T e σ i v} f hi ⟨e1, h⟩ => ?_, fun i v m => by simp at m⟩
  · rw [rngL_length] at hi; exact hi
  · rw [rngL_length] at hi; exact hi
  · subst e1 h
    rw [rngL_length] at hi
    exact ⟨.int (lo + i), by unfold rngL; rw [List.getElem?_map, List.getElem?_range hi]; rfl, f.add (fun D => ⟨rfl, by unfold Dq; rfl⟩) rfl⟩
theorem its_str {z : Str} : ItS S (Its z) (z.cps.toList.map fun c => .str ⟨#[c]⟩) [] := by
  refine ⟨fun {W pv H T e σ i} f hi => ?_, fun {pv H T e σ i} f hi => ?_, fun {pv H H' T e σ i v} f hi ⟨e1, c, hc, h⟩ => ?_, fun i v m => by simp at m⟩
  · have : i < z.cps.size := by simpa using hi
    exact this
  · have : z.cps.size ≤ i := by simpa using hi
    exact this
  · subst e1 h
    exact ⟨.str ⟨#[c]⟩, by rw [List.getElem?_map]; simp [hc], f.add (fun D => ⟨rfl, by unfold Dq; rfl⟩) rfl⟩
variable {X : Cx} {tg a b : Expr} {es : List Expr} {ca cb : CE} {cs : CEs} {pos p : Pos}
theorem imp_i {e : Expr} {t t' : TI} (h : PI X tg e t) (k : ∀ σ H Q, t' σ H Q → t σ H Q) : PI X tg e t' := ⟨fun pins s σ H Q I h' => h.run pins s σ H Q I (k σ H Q h')⟩
theorem i_seq (hK : X.K = S.K) (ha : PE X a (lE S ca)) : PI X tg a (lI S (.seq ca)) := imp_i (pi_seq ha) fun σ H R ⟨T, e, f, h⟩ => by
  rw [evi] at h
  refine ⟨T, e, f, out_mono (out_bd.mp h) (fun x e1 h1 v H1 f1 s1 => ?_) fun _ _ z => z⟩
  obtain ⟨xs, ez, k⟩ := out_lift h1
  rw [hK]
  have lst : ∀ xs, S.fr H1 ((.d (.list xs), v) :: T) e1 σ → (∀ J H1 T1, ItS S J xs T1 → S.fr H1 (T1 ++ T) e1 σ → R J H1) → ∃ a vs, v = .ref a ∧ ((SqL S.K H1 a vs ∧ R (Itl S.K a) H1) ∨ (SqT S.K H1 a vs ∧ R (Itt S.K a) H1)) := fun xs f1 k => by
    obtain ⟨a, vs, rfl, ha, l, g⟩ := lvE (f1.dup trivial) (xs := xs) rfl
    exact ⟨a, vs, rfl, .inl ⟨SqL.of ha, k _ H1 [(.d (.list xs), .ref a)] its_list f1⟩⟩
  have lst : ∀ xs, S.fr H1 ((.d (.list xs), v) :: T) e1 σ → (∀ J H1 T1, ItS S J xs T1 → S.fr H1 (T1 ++ T) e1 σ → R J H1) → (∃ z, v = .str z ∧ R (Its z) H1) ∨ ∃ a vs, v = .ref a ∧ ((SqL S.K H1 a vs ∧ R (Itl S.K a) H1) ∨ (SqT S.K H1 a vs ∧ R (Itt S.K a) H1)) := fun xs f1 k => .inr (lst xs f1 k)
  split at ez
  · cases ez
    obtain ⟨a, vs, rfl, ha, l, g⟩ := tvE (f1.dup trivial)
    exact .inr ⟨a, vs, rfl, .inr ⟨ha, k _ H1 [(.d (.tuple _), .ref a)] its_tup f1⟩⟩
  · cases ez; exact lst _ f1 k
  · cases ez; exact lst _ f1.frz k
  · split at ez
    · cases ez
      have := f1.dstr
      subst this
      exact .inl ⟨_, rfl, k _ H1 [] its_str f1.tail⟩
    · cases ez
  · cases ez
theorem i_str (ha : PE X a (lE S ca)) : PI X tg a (lI S (.str ca)) := imp_i (pi_str ha) fun σ H R ⟨T, e, f, h⟩ => by
  rw [evi] at h
  refine ⟨T, e, f, out_mono (out_bd.mp h) (fun x e1 h1 v H1 f1 s1 => ?_) fun _ _ z => z⟩
  obtain ⟨xs, ez, k⟩ := out_lift h1
  split at ez
  · split at ez
    · cases ez
      have := f1.dstr
      subst this
      exact ⟨_, rfl, k _ H1 [] its_str f1.tail⟩
    · cases ez
  · cases ez
theorem i_rng1 (hg : Gl X "range") (hm : X.mg "range" = none) (ha : PA X [a] (lA S cs)) (hs : starEach [a] X.env = [(false, eval a X.env)]) (h1 : ∀ F e us e1, evs F cs e = .ok us e1 → us.length = 1) : PI X tg (.Call (.Name "range" p) [a] [] pos) (lI S (.rng cs)) := imp_i (pi_range1 hg hm ha hs) fun σ H R ⟨T, e, f, h⟩ => by
  rw [evi] at h
  refine ⟨T, e, f, ?_⟩
  have h := out_bd.mp h
  cases q : evs S.F cs e with
  | no => rw [q] at h; exact h
  | ex x e1 => rw [q] at h; exact h
  | ok us e1 =>
    rw [q] at h
    intro vs H1 l f1 s1
    obtain ⟨xs, ez, k⟩ := out_lift (show out (lift _ e1) _ _ from h)
    have l1 := h1 _ _ _ _ q
    split at ez
    · split at ez
      · rename_i j hj
        cases ez
        match vs, l with
        | [w], _ =>
          have f1 : S.fr H1 ((.d (.int j), w) :: T) e1 σ := f1
          have := f1.dint
          subst this
          have hb : big = 1000000000 := rfl
          exact ⟨j, rfl, by omega, by omega, k _ H1 [] its_rng f1.tail⟩
      · cases ez
    · cases l1
    · cases ez
theorem i_rng2 (hg : Gl X "range") (hm : X.mg "range" = none) (ha : PA X [a, b] (lA S cs)) (hs : starEach [a, b] X.env = [(false, eval a X.env), (false, eval b X.env)]) (hs2 : starEach [b] X.env = [(false, eval b X.env)]) (h1 : ∀ F e us e1, evs F cs e = .ok us e1 → us.length = 2) : PI X tg (.Call (.Name "range" p) [a, b] [] pos) (lI S (.rng cs)) := imp_i (pi_range2 hg hm ha hs hs2) fun σ H R ⟨T, e, f, h⟩ => by
  rw [evi] at h
  refine ⟨T, e, f, ?_⟩
  have h := out_bd.mp h
  cases q : evs S.F cs e with
  | no => rw [q] at h; exact h
  | ex x e1 => rw [q] at h; exact h
  | ok us e1 =>
    rw [q] at h
    intro vs H1 l f1 s1
    obtain ⟨xs, ez, k⟩ := out_lift (show out (lift _ e1) _ _ from h)
    have l1 := h1 _ _ _ _ q
    split at ez
    · cases l1
    · split at ez
      · rename_i i j hj
        cases ez
        match vs, l with
        | [w, w2], _ =>
          have f1 : S.fr H1 ((.d (.int i), w) :: (.d (.int j), w2) :: T) e1 σ := f1
          have e1 := f1.dint
          have e2 := f1.tail.dint
          subst e1 e2
          have hb : big = 1000000000 := rfl
          exact ⟨i, j, rfl, ⟨by omega, by omega, by omega, by omega⟩, k _ H1 [] its_rng f1.tail.tail⟩
      · cases ez
    · cases ez
/-! ### comprehensions -/
theorem t_nil : PTs X [] (fun σ H Q => ∃ T e, S.fr H T e σ ∧ out (evt S.F .nil e) (fun b e1 => ∀ H1, S.fr H1 T e1 σ → Q b H1) (xw S T σ)) := ⟨fun pins s σ H Q I ⟨T, e, f, h⟩ => by
  rw [evt] at h
  exact (pts_nil (X := X)).run pins s σ H Q I (h H f)⟩
def lTs (S : Sur) (cs : CEs) : TT := fun σ H Q => ∃ T e, S.fr H T e σ ∧ out (evt S.F cs e) (fun b e1 => ∀ H1, S.fr H1 T e1 σ → Q b H1) (xw S T σ)
theorem t_one (h : PT X a (lT S ca)) : PTs X [a] (lTs S (.cons ca .nil)) := ⟨fun pins s σ H Q I ⟨T, e, f, hh⟩ => by
  rw [evt] at hh
  refine (pts_one h).run pins s σ H Q I ⟨T, e, f, out_mono (out_bd.mp hh) (fun x e1 h1 => ?_) fun _ _ z => z⟩
  split at h1
  · refine ⟨true, rfl, fun H1 f1 s1 => ?_⟩
    rw [evt] at h1
    exact h1 H1 f1
  · exact ⟨false, rfl, fun H1 f1 s1 => h1 H1 f1⟩
  · exact h1.elim⟩
theorem dat_fr {pv : List (Nat × V)} {K : PySem.W.Frag} {fa : Nat → Addr} {y : PyData} (f : Frm K fa pv H ((u, v) :: T) e σ) (h : u.dat = some y) : Frm K fa pv H ((.d y, v) :: T) e σ := by
  cases u with
  | d x => cases h; exact f
  | o x => cases h; exact f.frz
  | _ => cases h
theorem toLeaf {K : PySem.W.Frag} {fa : Nat → Addr} {x : PyData} {L : List (U × V)} (r : Rel K fa H ((.d x, v) :: L)) : Rel K fa H ((.o (.leaf x), v) :: L) := by
  obtain ⟨A, n, A1, A2, e, h1, h2⟩ := r
  exact ⟨A, n, A1, A2, e, by show Ow K _ H (.leaf x) v A1; unfold Ow; exact h1, h2⟩
theorem ofLeaf {K : PySem.W.Frag} {fa : Nat → Addr} {x : PyData} {L : List (U × V)} (r : Rel K fa H ((.o (.leaf x), v) :: L)) : Rel K fa H ((.d x, v) :: L) := by
  obtain ⟨A, n, A1, A2, e, h1, h2⟩ := r
  have h1 : Ow K _ H (.leaf x) v A1 := h1
  unfold Ow at h1
  exact ⟨A, n, A1, A2, e, h1, h2⟩
/-- one more at the list's end -/
theorem push_fr {pv : List (Nat × V)} {K : PySem.W.Frag} {fa : Nat → Addr} {L : Addr} {acc : List PyData} {y : PyData} {w : V} (f : Frm K fa pv H ((.d y, w) :: (nl acc, .ref L) :: T) e σ) : ∃ vs, H L = some (.lst vs) ∧ vs.length = acc.length ∧ Frm K fa pv (upd H L (.lst (vs ++ [w]))) ((nl (acc ++ [y]), .ref L) :: T) e σ := by
  have key : ∀ M, Rel K fa H ((.d y, w) :: (nl acc, .ref L) :: M) → ∃ vs, H L = some (.lst vs) ∧ vs.length = acc.length ∧ Rel K fa (upd H L (.lst (vs ++ [w]))) ((nl (acc ++ [y]), .ref L) :: M) := fun M r => by
    have r1 : Rel K fa H ((nl acc, .ref L) :: (.o (.leaf y), w) :: M) := (toLeaf r).perm (.swap _ _ _)
    obtain ⟨a, vs, e1, ha, l, r2⟩ := r1.openL
    cases e1
    have l' : vs.length = acc.length := by rw [l, List.length_map]
    refine ⟨vs, ha, l', ?_⟩
    have r3 := r2.put (o' := .lst (vs ++ [w])) trivial
    refine Rel.closeL (vs := vs ++ [w]) (by simp [l']) (r3.perm ?_)
    rw [List.map_append, List.map_append, List.zip_append (by simp [l'])]
    refine List.Perm.cons _ ?_
    rw [List.append_assoc]
    refine List.Perm.append_left _ ?_
    exact .refl _
  obtain ⟨vs, h1, h2, _⟩ := key _ f.rel
  refine ⟨vs, h1, h2, ?_⟩
  refine Frm.one (T1 := [(.d y, w), (nl acc, .ref L)]) f (fun M r => ?_) rfl
  obtain ⟨vs', e1, _, r'⟩ := key M r
  rw [h1] at e1
  cases e1
  exact r'
end
end Fi
/-! Comprehensions. -/
namespace Fi
open PySem PySem.Spec PyProof.Rows L2
section
variable {S : Sur} {H H' : Hp} {T : List (U × V)} {e : Env} {σ : L2.St} {u : U} {v : V} {xs ys : List PyData}
theorem lcL_wipe (t : PyData → Env → Option Env) (p : Env → Rs Bool) (x : Env → Rs U) (vs : List Nat) : ∀ (ds acc : List PyData) (e e' : Env), wipeE e vs = wipeE e' vs → lcL t p x vs ds acc e = lcL t p x vs ds acc e'
  | [], acc, e, e', h => by unfold lcL; rw [h]
  | d :: ds, acc, e, e', h => by
    unfold lcL
    rw [h]
theorem wipeE_set (e : Env) (i : Nat) (x : Option U) : ∀ (vs : List Nat), i ∈ vs → wipeE (e.set i x) vs = wipeE e vs
  | [], h => by cases h
  | w :: vs, h => by
    show (wipeE (e.set i x) vs).set w none = (wipeE e vs).set w none
    by_cases h2 : i ∈ vs
    · rw [wipeE_set e i x vs h2]
    · have hw : i = w := (List.mem_cons.mp h).resolve_right h2
      subst hw
      have : ∀ ws : List Nat, i ∉ ws → wipeE (e.set i x) ws = (wipeE e ws).set i x := fun ws => by
        induction ws with
        | nil => intro _; rfl
        | cons z zs ih =>
          intro hz
          show (wipeE (e.set i x) zs).set z none = ((wipeE e zs).set z none).set i x
          rw [ih (fun q => hz (List.mem_cons_of_mem _ q)), set_comm' _ _ _ (fun q : i = z => hz (q ▸ List.mem_cons_self))]
      rw [this vs h2, List.set_set]
theorem wipeE_idem (e : Env) : ∀ vs : List Nat, wipeE (wipeE e vs) vs = wipeE e vs := fun vs => by
  refine List.ext_getElem? fun i => ?_
  by_cases hi : i ∈ vs
  · have h1 := wipeE_none (vs := vs) (e := wipeE e vs) hi
    have h2 := wipeE_none (vs := vs) (e := e) hi
    have l1 := wipeE_len (wipeE e vs) vs
    rcases h2 with h2 | h2
    · rw [h2]
      rw [List.getElem?_eq_none_iff] at h2 ⊢
      omega
    · rw [h2]
      rcases h1 with h1 | h1
      · rw [List.getElem?_eq_none_iff] at h1
        have : i < (wipeE e vs).length := by
          cases Nat.lt_or_ge i (wipeE e vs).length with
          | inl h => exact h
          | inr h => rw [List.getElem?_eq_none_iff.mpr h] at h2; cases h2
        omega
      · exact h1
  · have : ∀ (τ : Env) (vs : List Nat), i ∉ vs → (wipeE τ vs)[i]? = τ[i]? := fun τ vs => by
      induction vs with
      | nil => intro _; rfl
      | cons w ws ih =>
        intro hw
        show ((wipeE τ ws).set w none)[i]? = _
        rw [List.getElem?_set_ne (fun z => hw (by rw [z]; exact List.mem_cons_self)), ih fun z => hw (List.mem_cons_of_mem _ z)]
    rw [this _ vs hi]
theorem lc_get {x : CE} {t : CT} {it : CI} {ifs : CEs} {vs : List Nat} (hv : ∀ i ∈ t.is, i ∈ vs) {Q : VK} (h : lE S (.lc x t it ifs vs) σ H Q) : tLc (lI S it) (lG S.inn t) (lTs S.inn ifs) (lE S.inn x) vs σ H Q := by
  obtain ⟨T, e, f, h⟩ := h
  rw [ev] at h
  refine ⟨T, e, f, out_mono (out_bd.mp h) (fun xs e1 h1 J H1 T1 its f1 => ?_) fun _ _ z => z⟩
  intro L hL
  have hlen : xs.length ≤ most := by
    split at h1
    · assumption
    · exact h1.elim
  rw [if_pos hlen] at h1
  let turns := lcL (fun d e => setT t d e) (fun e => evt S.F ifs e) (fun e => ev S.F x e) vs
  let P : U → Env → Prop := fun u e1 => ∀ v H1, S.fr H1 ((u, v) :: T) e1 σ → Sid (.lc x t it ifs vs) σ H v H1 → Q v H1
  have nq : ¬ (qt (.lc x t it ifs vs) = true) := by simp [qt]
  let W : Nat → Nat → Hp → Prop := fun i m H' => m = xs.length - i ∧ ∃ acc e', S.fr H' ((nl acc, .ref L) :: (T1 ++ T)) e' σ ∧ wipeE e' vs = e' ∧ acc.length ≤ i ∧ out (turns (xs.drop i) acc e') P (xw S T σ)
  refine ⟨W, ⟨xs.length, rfl, [], wipeE e1 vs, ?_, wipeE_idem _ _, Nat.le_refl _, ?_⟩, fun i m H' ⟨em, acc, e', f', ew, hacc, ho⟩ => ?_⟩
  · exact Frm.one (T1 := []) (f1.wiped vs) (fun M r => Rel.newL' r (xs := []) (vs := []) (fun A _ => DqL.nil) hL) rfl
  · rw [List.drop_zero]
    show out (lcL _ _ _ vs xs [] (wipeE e1 vs)) P (xw S T σ)
    rw [lcL_wipe _ _ _ vs xs [] (wipeE e1 vs) e1 (wipeE_idem _ _)]
    exact h1
  have nbT : ∀ i v, (U.b i, v) ∉ (nl acc, V.ref L) :: T1 := fun i v m => by
    rcases List.mem_cons.mp m with z | z
    · cases z
    · exact its.nb i v z
  have fJ : Frm S.K S.fa S.pv H' (T1 ++ ((nl acc, .ref L) :: T)) e' σ := f'.perm List.perm_middle.symm
  by_cases hi : i < xs.length
  · refine .inr ⟨its.go (W := S.W) fJ hi, fun H2 => ∃ m', m' < m ∧ W (i + 1) m' H2, fun H2 h2 => h2, fun v H2 hy => ?_⟩
    obtain ⟨d, ed, f2⟩ := its.yl fJ hi hy
    have e3 : xs.drop i = d :: xs.drop (i + 1) := by
      rw [List.getElem?_eq_getElem hi] at ed
      rw [← Option.some.inj ed]
      exact List.drop_eq_getElem_cons hi
    have ho : out (lcL (fun d e => setT t d e) (fun e => evt S.F ifs e) (fun e => ev S.F x e) vs (d :: xs.drop (i + 1)) acc e') P (xw S T σ) := by rw [← e3]; exact ho
    unfold lcL at ho
    rw [ew] at ho
    -- into the block
    have f3 : S.fr H2 (((.d d, v) :: (nl acc, .ref L) :: T1) ++ T) e' σ := f2.perm (List.Perm.cons _ (by
      show (T1 ++ ((nl acc, V.ref L) :: T)).Perm ((nl acc, V.ref L) :: (T1 ++ T))
      exact List.perm_middle))
    have f4 := f3.toBlk vs
    have en : noB (((.d d, v) :: (nl acc, .ref L) :: T1) ++ T) = (.d d, v) :: ((nl acc, .ref L) :: T1 ++ noB T) := by
      have : noB T1 = T1 := List.filter_eq_self.mpr fun p hp => by
        obtain ⟨u, w⟩ := p
        cases u with
        | b j => exact absurd hp (its.nb j w)
        | _ => rfl
      show (.d d, v) :: (nl acc, .ref L) :: noB (T1 ++ T) = _
      have e2 : noB (T1 ++ T) = noB T1 ++ noB T := List.filter_append ..
      rw [e2, this]
      rfl
    rw [en, ew] at f4
    have nb5 : ∀ j w, (U.b j, w) ∉ (nl acc, V.ref L) :: T1 ++ noB T := fun j w m => by
      rcases List.mem_append.mp m with z | z
      · exact nbT j w z
      · exact noB_mem z
    cases et : setT t d e' with
    | none =>
      rw [et] at ho
      exact ho.elim
    | some e4 =>
      rw [et] at ho
      simp only at ho
      refine ⟨_, e', d, f4, nb5, (fun i hi p hp => by cases hp), e4, et, fun σ2 f5 hw => ?_⟩
      have hw2 : wipe σ2 vs = wipe σ vs := (hw vs hv).trans (by
        have : ∀ vs : List Nat, wipe (wipe σ vs) vs = wipe σ vs := fun vs => by
          refine List.ext_getElem? fun j => ?_
          by_cases hj : j ∈ vs
          · have g : ∀ (τ : L2.St) (vs : List Nat), j ∈ vs → (wipe τ vs)[j]? = if j < τ.length then some none else none := fun τ vs => by
              induction vs with
              | nil => intro z; cases z
              | cons w ws ih =>
                intro z
                show ((wipe τ ws).set w none)[j]? = _
                by_cases q : w = j
                · subst q
                  cases Nat.lt_or_ge w τ.length with
                  | inl h => rw [if_pos h, List.getElem?_set_self (by rw [wipe_length]; exact h)]
                  | inr h => rw [if_neg (by omega), List.getElem?_eq_none_iff.mpr (by rw [List.length_set, wipe_length]; exact h)]
                · rw [List.getElem?_set_ne q]
                  exact ih ((List.mem_cons.mp z).resolve_left fun y => q y.symm)
            rw [g _ vs hj, g _ vs hj, wipe_length]
          · have g : ∀ (τ : L2.St) (vs : List Nat), j ∉ vs → (wipe τ vs)[j]? = τ[j]? := fun τ vs => by
              induction vs with
              | nil => intro _; rfl
              | cons w ws ih =>
                intro hw
                show ((wipe τ ws).set w none)[j]? = _
                rw [List.getElem?_set_ne (fun z => hw (by rw [z]; exact List.mem_cons_self)), ih fun z => hw (List.mem_cons_of_mem _ z)]
            rw [g _ vs hj]
        exact this vs)
      refine ⟨hw2, ?_⟩
      refine ⟨_, e4, f5, ?_⟩
      cases ep : evt S.F ifs e4 with
      | no => rw [ep] at ho; exact ho.elim
      | ex y e5 => rw [ep] at ho; exact ho.elim
      | ok b e5 =>
        rw [ep] at ho
        show out (evt S.F ifs e4) _ _
        rw [ep]
        intro H3 f6
        cases b with
        | false =>
          refine iteF ⟨xs.length - (i + 1), by omega, rfl, acc, wipeE e5 vs, ?_, wipeE_idem _ _, by omega, ?_⟩
          · exact Frm.ofBlk (T1 := (nl acc, .ref L) :: T1) f f6 hw2 nbT
          · show out (lcL _ _ _ vs _ acc (wipeE e5 vs)) P (xw S T σ)
            rw [lcL_wipe _ _ _ vs _ acc (wipeE e5 vs) e5 (wipeE_idem _ _)]
            exact ho
        | true =>
          dsimp only at ho
          refine iteT ⟨_, e5, f6, ?_⟩
          cases ex : ev S.F x e5 with
          | no => rw [ex] at ho; exact ho.elim
          | ex y e6 => rw [ex] at ho; exact ho.elim
          | ok u e6 =>
            rw [ex] at ho
            simp only at ho
            show out (ev S.F x e5) _ _
            rw [ex]
            intro w H4 f7 s7
            cases ed : u.dat with
            | none => simp only [ed] at ho; exact ho.elim
            | some y =>
              simp only [ed] at ho
              have f8 : S.inn.fr H4 ((.d y, w) :: (nl acc, .ref L) :: (T1 ++ noB T)) e6 σ2 := dat_fr f7 ed
              obtain ⟨vs2, g1, g2, f9⟩ := push_fr f8
              refine ⟨vs2, g1, ?_, xs.length - (i + 1), by omega, rfl, acc ++ [y], wipeE e6 vs, ?_, wipeE_idem _ _, by simp; omega, ?_⟩
              · rw [g2]
                exact sz_lt (by omega)
              · exact Frm.ofBlk (T1 := (nl (acc ++ [y]), .ref L) :: T1) f f9 hw2 fun i v m => by
                  rcases List.mem_cons.mp m with z | z
                  · cases z
                  · exact its.nb i v z
              · show out (lcL _ _ _ vs _ (acc ++ [y]) (wipeE e6 vs)) P (xw S T σ)
                rw [lcL_wipe _ _ _ vs _ (acc ++ [y]) (wipeE e6 vs) e6 (wipeE_idem _ _)]
                exact ho
  · refine .inl ⟨its.st fJ (by omega), ?_⟩
    have ho : out (lcL (fun d e => setT t d e) (fun e => evt S.F ifs e) (fun e => ev S.F x e) vs (xs.drop i) acc e') P (xw S T σ) := ho
    rw [List.drop_of_length_le (by omega)] at ho
    unfold lcL at ho
    rw [ew] at ho
    have f2 : S.fr H' (T1 ++ ((nl acc, .ref L) :: T)) e' σ := fJ
    exact ho (.ref L) H' f2.drop (sid fun q => absurd q nq)
end
end Fi
/-! Defs, when nothing is being shown. -/
namespace Fi
open PySem PySem.Spec PyProof.Rows L2
/-- a def keeps its word wherever nothing is being shown -/
structure FnG (P : Program) (w : World) (K : PySem.W.Frag) (mg : Str → Option Value) (base : Heap) (k : Nat) (f : Addr) (fd : FuncData) (ps : List Str) (sp : Sp) : Prop where
  many : ∀ xs H Q E, sp xs H Q E → xs.length = ps.length
  go : ∀ (A : Around) (l : List PySem.Env) (s : Shared) (H : Hp) (ar : Args) (us : List Value) (xs : List V) (Q : VK) (E : XK), Room k A → A.guards = some [] → Env0 P w K mg base A l s H → BindsTo s fd ar (ps.zip us) → Vals xs us → sp xs H Q E →
    codeAny (model P w) A (.call (.ref f) ar) (CR (L2.CX P w) l P w H s Q E) s
/-- the body's surroundings -/
abbrev cxG (P : Program) (w : World) (K : PySem.W.Frag) (mg : Str → Option Value) (base : Heap) (N : List Str) (x : Str) (st : Stmt) (f : Addr) (cd : Value) (A : Around) (l : List PySem.Env) (s : Shared) (H : Hp) (E : XK) : Cx := cxOf (L2.CX P w) P w K mg base N x (defScope st) f cd A l s H E
theorem fng {P : Program} {w : World} {K : PySem.W.Frag} {mg : Str → Option Value} {base : Heap} {x : Str} {st : Stmt} {f : Addr} {fd : FuncData} {N ps : List Str} {k : Nat} {sp : Sp} (F : Fun K x x st f fd) (fs : FnScope N ps (defScope st)) (many : ∀ xs H Q E, sp xs H Q E → xs.length = ps.length)
    (body : ∀ (cd : Value) (A : Around) (l : List PySem.Env) (s : Shared) (H : Hp) (xs : List V) (Q : VK) (E : XK), Room k (A.deeper (envOfC x (defScope st) s.heap.objs.size f cd)) → A.guards = some [] → sp xs H Q E →
      ∃ t, PSs (cxG P w K mg base N x st f cd A l s H E) (defBody st) t ∧ t { nx := fun _ H2 => Q .non H2, rt := Q } (start N xs) H) : FnG P w K mg base (k + 1) f fd ps sp := by
  obtain ⟨oc, od, kV, doc, pm, an, cd, ct, osl, rfl, look, code⟩ := F.ex
  refine ⟨many, ?_⟩
  intro A l s H ar us xs Q E room noG env bind rel want
  have same := many _ _ _ _ want
  have up : ∀ b o, base.get? b = some o → s.heap.get? b = some o := fun b o e => (env.bs b o e).1
  have inK : K.In s.heap := env.mod.kin.keeps up
  have noL : s.heap.NoLimit := env.mod.nolimit.keeps up
  have kinds : ∀ q ∈ ps.zip us, (defScope st).names.lookup q.1 = some .local ∨ ((defScope st).names.lookup q.1 = some .cell ∧ ((cellsFrom (s.heap.objs.size + 1) (defScope st).names []).lookup q.1).isSome = true) := by
    rintro ⟨n, v⟩ hq
    rcases fs.par n (List.of_mem_zip hq).1 with z | z
    · exact .inl z
    · exact .inr ⟨z, PySem.W.cellsFrom_some _ _ _ (.inl z)⟩
  refine codeAny_call_function room.depth (inK _ _ look) rfl fs.co fs.gen rfl (PySem.W.codeRec_of inK code) (bind _ _ _ _ (wpAny_newFunctionEnv_cells fs.kind kinds fun env2 he s2 y => ?_))
  subst he
  refine ⟨noL.keeps y.toInCall.keep, codeAny_func ?_⟩
  obtain ⟨t, ht, hq⟩ := body cd A l s H xs Q E (room.deeper _) noG want
  have I := inv_start (CX := L2.CX P w) (E := E) (qual := x) (f := f) (cd := cd) fs room.hd env same rel y
  refine wpAny_mono (ht.run [] s2 (start N xs) H _ I hq) (fun fl s3 q => ?_) fun _ _ q => q
  cases fl with
  | next => obtain ⟨σ, H2, J, q⟩ := q; exact ⟨.non, H2, J.os, J.bare, J.base, J.hok, rfl, q⟩
  | ret u => obtain ⟨v, σ, H2, J, r, q⟩ := q; exact ⟨v, H2, J.os, J.bare, J.base, J.hok, r, q⟩
  | brk => obtain ⟨_, _, _, q⟩ := q; exact q.elim
  | cont => obtain ⟨_, _, _, q⟩ := q; exact q.elim
section
variable {X : Cx} {k : Nat} {f : Addr} {fd : FuncData} {ps : List Str} {sp : Sp} {E : XK} {σ : L2.St} {H : Hp}
/-- it is called with these arguments -/
theorem FnG.call {pins : List (Addr × Obj)} {s : Shared} {Q : VK} {ar : Args} {us : List Value} {xs : List V} (F : FnG X.prog X.w X.K X.mg X.base k f fd ps sp) (room : Room k X.A) (noG : X.A.guards = some []) (bind : BindsTo s fd ar (ps.zip us)) (out : PassesAt (L2.CX X.prog X.w) X σ E)
    (I : Inv X pins σ H s) (rel : Vals xs us) (want : sp xs H Q E) : codeAny (model X.prog X.w) X.A (.call (.ref f) ar) (fun r s' => match r with
      | .ok fl => (match fl with
        | .ret u => EP X pins σ Q u s'
        | _ => False)
      | .error e => X.xe e s') s := codeAny_mono (F.go X.A X.stack s H ar us xs Q E room noG I.env0 bind rel want) fun r s2 q => by
  cases r with
  | error e => exact out pins H s e s2 I q
  | ok fl =>
    cases fl with
    | ret u => exact I.after q
    | next => exact q.elim
    | brk => exact q.elim
    | cont => exact q.elim
end
end Fi
/-! Calls of defs. -/
namespace Fi
open PySem PySem.Spec PyProof.Rows L2
/-- an error that left a def -/
def XR (K : PySem.W.Frag) (mg : Str → Option Value) (fa : Nat → Addr) (H : Hp) (x : Xn) (cls : Value) (d : Option Addr) (L : List (U × V)) : Prop :=
  mg x.cls = some cls ∧ match x.fld with
  | none => d = none ∧ Rel K fa H L
  | some (f, y) => ∃ dx v, d = some dx ∧ H dx = some (.xd [(f, v)]) ∧ Rel K fa H ((.d y, v) :: L)
/-- what the k-th def with n parameters does -/
def spC (K : PySem.W.Frag) (mg : Str → Option Value) (fa : Nat → Addr) (F : Nat → List U → Cr) (k n : Nat) : Sp := fun vs H Q E => ∃ (us : List U) (R : List (U × V)), us.length = n ∧ vs.length = n ∧ nbs us = true ∧ noB R = R ∧ Rel K fa H (us.zip vs ++ R) ∧ match F k us with
  | .ok u os => ∀ v H', isB u = false → os.length = n → nbs os = true → Rel K fa H' ((u, v) :: (os.zip vs ++ R)) → Q v H'
  | .ex x os => ∀ cls d H', os.length = n → nbs os = true → XR K mg fa H' x cls d (os.zip vs ++ R) → E cls d H'
  | .no => False
section
variable {S : Sur} {H H' : Hp} {T : List (U × V)} {e : Env} {σ : L2.St} {u : U} {v : V}
theorem backV_fr {c : CE} (f : S.fr H ((u, v) :: T) e σ) (m : mvf c σ v) : S.fr H T (backV c u e) σ := by
  unfold backV
  split
  · rename_i i
    have m : σ[i]? = some (some v) := m
    split
    · rename_i hi
      split
      · exact f.tail
      · exact f.push hi m
    · exact f.tail
  · rename_i i
    have m : σ[i]? = some (some v) := m
    split
    · rename_i hi
      split
      · exact f.tail
      · exact f.push hi m
    · exact f.tail
  · exact f.tail
theorem grab_fr : ∀ {es : CEs} {us us2 : List U} {vs : List V} {e e2 : Env} {T : List (U × V)}, us.length = vs.length → mvfs es σ vs → grab es us e = some (us2, e2) → S.fr H (us.zip vs ++ T) e σ → us2.length = us.length ∧ S.fr H (us2.zip vs ++ T) e2 σ
  | .nil, us, us2, vs, e, e2, T, l, m, g, f => by
    have : grab .nil us e = some (us, e) := by cases us <;> rfl
    rw [this] at g
    cases g
    exact ⟨rfl, f⟩
  | .cons c es, [], us2, vs, e, e2, T, l, m, g, f => by
    have : grab (.cons c es) [] e = some ([], e) := by cases c <;> rfl
    rw [this] at g
    cases g
    exact ⟨rfl, f⟩
  | .cons c es, u :: us, us2, [], e, e2, T, l, m, g, f => by cases l
  | .cons c es, u :: us, us2, v :: vs, e, e2, T, l, m, g, f => by
    have m : mvf c σ v ∧ mvfs es σ vs := m
    have l2 : us.length = vs.length := by simpa using l
    have plainC : (grab es us e).map (fun p => (u :: p.1, p.2)) = some (us2, e2) → us2.length = (u :: us).length ∧ S.fr H (us2.zip (v :: vs) ++ T) e2 σ := fun g => by
      cases q : grab es us e with
      | none => rw [q] at g; cases g
      | some p =>
        obtain ⟨us3, e3⟩ := p
        rw [q] at g
        cases g
        have f1 : S.fr H (us.zip vs ++ ((u, v) :: T)) e σ := f.perm List.perm_middle.symm
        obtain ⟨h1, h2⟩ := grab_fr l2 m.2 q f1
        exact ⟨by simp [h1], h2.perm List.perm_middle⟩
    by_cases hc : ∃ i j, c = .lt i ∧ u = .b j
    · obtain ⟨i, j, rfl, rfl⟩ := hc
      have g : (if i = j then (match e[i]? with
        | some (some (.o x)) => (grab es us (e.set i none)).map fun p => (U.o x :: p.1, p.2)
        | _ => none) else none) = some (us2, e2) := g
      split at g
      · split at g
        · rename_i x hx
          cases q : grab es us (e.set i none) with
          | none => rw [q] at g; cases g
          | some p =>
            obtain ⟨us3, e3⟩ := p
            rw [q] at g
            cases g
            have f0 : S.fr H (us.zip vs ++ T) e σ := Frm.tail f
            obtain ⟨w, hw, f1⟩ := f0.pull hx rfl
            have mv : σ[i]? = some (some v) := m.1
            rw [mv] at hw
            cases hw
            have f2 : S.fr H (us.zip vs ++ ((.o x, v) :: T)) (e.set i none) σ := f1.perm List.perm_middle.symm
            obtain ⟨h1, h2⟩ := grab_fr l2 m.2 q f2
            exact ⟨by simp [h1], h2.perm List.perm_middle⟩
        · cases g
      · cases g
    · refine plainC ?_
      rw [← g]
      cases c with
      | lt i =>
        cases u with
        | b j => exact absurd ⟨i, j, rfl, rfl⟩ hc
        | _ => rfl
      | _ => rfl
theorem back_fr : ∀ {es : CEs} {os : List U} {vs : List V} {e : Env}, os.length = vs.length → mvfs es σ vs → S.fr H (os.zip vs ++ T) e σ → S.fr H T (back es os e) σ
  | .nil, os, vs, e, l, m, f => by
    have : back .nil os e = e := by cases os <;> rfl
    rw [this]; exact f.drop
  | .cons c es, [], vs, e, l, m, f => f
  | .cons c es, o :: os, [], e, l, m, f => by cases l
  | .cons c es, o :: os, v :: vs, e, l, m, f => by
    have m : mvf c σ v ∧ mvfs es σ vs := m
    exact back_fr (es := es) (by simpa using l) m.2 (backV_fr (c := c) f m.1)
theorem noB_noB : ∀ {T : List (U × V)}, noB (noB T) = noB T := fun {T} => by
  unfold noB; rw [List.filter_filter]; congr 1; funext p; simp
/-- the frame as a callee sees it -/
theorem to_call {us : List U} {vs : List V} (f : S.fr H (us.zip vs ++ T) e σ) : Rel S.K S.fa H (us.zip vs ++ noB (T ++ fl e σ)) := by
  have r := f.zb
  have p1 : (us.zip vs ++ (T ++ fl e σ)).Perm ((T ++ fl e σ) ++ us.zip vs) := List.perm_append_comm
  exact (Rel.noB.mp (r.perm p1)).perm List.perm_append_comm
theorem un_noB {A L : List (U × V)} (r : Rel S.K S.fa H' (A ++ noB L)) : Rel S.K S.fa H' (A ++ L) := by
  have r1 := r.perm List.perm_append_comm
  exact (Rel.noB.mpr r1).perm List.perm_append_comm
theorem of_call {us : List U} {vs : List V} {os : List U} (hb : isB u = false) (hn : nbs os = true) (f : S.fr H (us.zip vs ++ T) e σ) (r : Rel S.K S.fa H' ((u, v) :: (os.zip vs ++ noB (T ++ fl e σ)))) : S.fr H' ((u, v) :: (os.zip vs ++ T)) e σ := by
  have r1 : Rel S.K S.fa H' ((((u, v) :: os.zip vs) ++ T) ++ fl e σ) := by
    have := un_noB (A := (u, v) :: os.zip vs) r
    rw [← List.append_assoc] at this
    exact this
  refine ⟨r1, f.len, f.has, fun i w m => ?_, f.pr⟩
  rcases List.mem_append.mp (show (U.b i, w) ∈ ((u, v) :: os.zip vs) ++ T from m) with m | m
  · exfalso
    rcases List.mem_cons.mp m with q | q
    · cases q; cases hb
    · have h2 := List.all_eq_true.mp hn _ (List.of_mem_zip q).1
      cases h2
  · exact f.bo i w (List.mem_append_right _ m)
theorem of_callX {us : List U} {vs : List V} {os : List U} {x : Xn} {cls : Value} {d : Option Addr} (hn : nbs os = true) (f : S.fr H (us.zip vs ++ T) e σ) (r : XR S.K S.mg S.fa H' x cls d (os.zip vs ++ noB (T ++ fl e σ))) : XF S H' x cls d (os.zip vs ++ T) e σ := by
  obtain ⟨hm, r⟩ := r
  refine ⟨hm, ?_⟩
  cases q : x.fld with
  | none =>
    rw [q] at r
    refine ⟨r.1, ?_⟩
    have r2 : Rel S.K S.fa H' ((.d .none, .non) :: (os.zip vs ++ noB (T ++ fl e σ))) := r.2.non
    exact (of_call (u := .d .none) (v := .non) rfl hn f r2).tail
  | some p =>
    rw [q] at r
    obtain ⟨dx, w, h1, h2, r⟩ := r
    exact ⟨dx, w, h1, h2, of_call rfl hn f r⟩
theorem XF.map {x : Xn} {cls : Value} {d : Option Addr} {T' : List (U × V)} {e' : Env} (h : XF S H x cls d T e σ) (k : ∀ {u v}, S.fr H ((u, v) :: T) e σ → S.fr H ((u, v) :: T') e' σ) : XF S H x cls d T' e' σ := by
  obtain ⟨hm, h⟩ := h
  refine ⟨hm, ?_⟩
  cases q : x.fld with
  | none =>
    rw [q] at h
    exact ⟨h.1, (k h.2.non).tail⟩
  | some p =>
    rw [q] at h
    obtain ⟨dx, w, h1, h2, r⟩ := h
    exact ⟨dx, w, h1, h2, k r⟩
theorem back_fr1 {es : CEs} {os : List U} {vs : List V} (l : os.length = vs.length) (m : mvfs es σ vs) (f : S.fr H ((u, v) :: (os.zip vs ++ T)) e σ) : S.fr H ((u, v) :: T) (back es os e) σ :=
  back_fr (T := (u, v) :: T) l m (f.perm List.perm_middle.symm)
/-- a call, arguments at hand -/
theorem call_go {us : List U} {vs : List V} {k n : Nat} {cs : CEs} {Q : VK} (hl : us.length = vs.length) (hn : us.length = n) (f : S.fr H (us.zip vs ++ T) e σ) (m : mvfs cs σ vs)
    (h : match callF S.F k us with
      | .ok u os => ∀ v H1, S.fr H1 ((u, v) :: T) (back cs os e) σ → Q v H1
      | .ex x os => xw S T σ x (back cs os e)
      | .no => False) : spC S.K S.mg S.fa S.F k n vs H Q (WE S.W σ) := by
  unfold callF at h
  by_cases hb : nbs us = true
  · rw [if_pos hb] at h
    refine ⟨us, noB (T ++ fl e σ), hn, by rw [← hl]; exact hn, hb, noB_noB, to_call f, ?_⟩
    cases q : S.F k us with
    | ok u os =>
      rw [q] at h
      intro v H1 hu ho hno r
      exact h v H1 (back_fr1 (by rw [ho, ← hl, hn]) m (of_call hu hno f r))
    | ex x os =>
      rw [q] at h
      intro cls d H1 ho hno r
      exact h cls d H1 ((of_callX hno f r).map fun {u v} g => back_fr1 (u := u) (v := v) (by rw [ho, ← hl, hn]) m g)
    | no => rw [q] at h; exact h.elim
  · rw [if_neg hb] at h; exact h.elim
end
def CEs.len : CEs → Nat
  | .nil => 0
  | .cons _ r => r.len + 1
theorem evs_len {F : Nat → List U → Cr} : ∀ {cs : CEs} {e : Env} {us : List U} {e1 : Env}, evs F cs e = .ok us e1 → us.length = cs.len
  | .nil, e, us, e1, h => by
    rw [evs] at h
    cases h; rfl
  | .cons c cs, e, us, e1, h => by
    rw [evs] at h
    cases q : ev F c e with
    | ok x e2 =>
      rw [q] at h
      have h : (evs F cs e2).bd (fun us e2 => .ok (x :: us) e2) = .ok us e1 := h
      cases q2 : evs F cs e2 with
      | ok ys e3 =>
        rw [q2] at h
        have h : Rs.ok (x :: ys) e3 = .ok us e1 := h
        cases h
        have := evs_len q2
        show ys.length + 1 = cs.len + 1
        rw [this]
      | ex y e3 => rw [q2] at h; cases h
      | no => rw [q2] at h; cases h
    | ex y e3 => rw [q] at h; cases h
    | no => rw [q] at h; cases h
theorem out_eq {α : Type} {r : Rs α} {p : α → Env → Prop} {q : Xn → Env → Prop} (h : out r p q) : out r (fun a e => r = .ok a e ∧ p a e) q := by
  cases r with
  | ok a e => exact ⟨rfl, h⟩
  | ex x e => exact h
  | no => exact h
/-- a def that keeps its word -/
structure Kept (X : Cx) (S : Sur) (lvl g n : Nat) : Prop where
  ex : ∃ (fd : FuncData) (ps : List Str), FnG X.prog X.w X.K X.mg X.base lvl (S.fa g) fd ps (spC S.K S.mg S.fa S.F g n) ∧ Binds X.K fd ps []
  kp : PySem.W.keepIn X.K (.ref (S.fa g)) = true
theorem Kept.call {X : Cx} {S : Sur} {lvl g n : Nat} {pins : List (Addr × Obj)} {s : Shared} {σ : L2.St} {H : Hp} {Q : VK} {us : List Value} {vs : List V} (ok : Kept X S lvl g n) (hr : Room lvl X.A) (hg : X.A.guards = some []) (tk : Takes X S.W) (I : Inv X pins σ H s) (r : Vals vs us) (h : spC S.K S.mg S.fa S.F g n vs H Q (WE S.W σ)) :
    wpAny (model X.prog X.w) X.A (call (.ref (S.fa g)) us) (EP X pins σ Q) X.xe s := by
  obtain ⟨fd, ps, F, b⟩ := ok.ex
  have hl : us.length = ps.length := by rw [← r.length]; exact F.many _ _ _ _ h
  have hb := b s us I.kIn (by rw [List.append_nil]; exact hl)
  rw [List.append_nil] at hb
  refine wpAny_call (codeAny_mono (F.call hr hg hb (passAt tk σ) I r h) fun res s' q => ?_)
  cases res with
  | error e => exact q
  | ok fl => cases fl <;> exact q
section
variable {X : Cx} {S : Sur} {H : Hp} {σ : L2.St} {e : Expr} {es : List Expr} {cs : CEs} {x : Str} {p pos : Pos} {g n lvl : Nat}
theorem call_mid {Q : VK} {T : List (U × V)} {env : Env} {c : CE} (nq : qt c = false) (nm : ∀ v, mvf c σ v) (hn : ∀ us, callF S.F g us ≠ .no → us.length = n) (f : S.fr H T env σ) (h : out ((evs S.F cs env).bd fun us e1 => match callF S.F g us with
      | .ok u os => .ok u (back cs os e1)
      | .ex x os => .ex x (back cs os e1)
      | .no => .no) (fun u e1 => ∀ v H1, S.fr H1 ((u, v) :: T) e1 σ → Sid c σ H v H1 → Q v H1) (xw S T σ)) : tCallS (spC S.K S.mg S.fa S.F g n) (WE S.W) (lA S cs) σ H Q := by
  refine ⟨T, env, f, out_mono (out_bd.mp h) (fun us e1 h1 vs H1 l f1 s1 => ?_) fun _ _ z => z⟩
  cases q : callF S.F g us with
  | ok u os =>
    rw [q] at h1
    refine call_go l (hn us (by rw [q]; simp)) f1 s1.2 ?_
    rw [q]
    exact fun v H2 f2 => h1 v H2 f2 ⟨(fun z => by rw [nq] at z; cases z), nm v⟩
  | ex y os =>
    rw [q] at h1
    refine call_go l (hn us (by rw [q]; simp)) f1 s1.2 ?_
    rw [q]
    exact h1
  | no => rw [q] at h1; exact h1.elim
theorem callF_no {F : Nat → List U → Cr} {g : Nat} {us : List U} (h : callF F g us ≠ .no) : F g us ≠ .no := by
  unfold callF at h
  split at h
  · exact h
  · exact absurd rfl h
theorem call_get {Q : VK} (hn : ∀ us, S.F g us ≠ .no → us.length = n) (h : lE S (.call g cs) σ H Q) : tCallS (spC S.K S.mg S.fa S.F g n) (WE S.W) (lA S cs) σ H Q := by
  obtain ⟨T, env, f, h⟩ := h
  rw [ev] at h
  refine ⟨T, env, f, out_mono (out_bd.mp h) (fun us e1 h1 vs H1 l f1 s1 => ?_) fun _ _ z => z⟩
  cases q0 : grab cs us e1 with
  | none => rw [q0] at h1; exact h1.elim
  | some p =>
    obtain ⟨us2, e2⟩ := p
    rw [q0] at h1
    obtain ⟨l3, f3⟩ := grab_fr l s1.2 q0 f1
    have l2 : us2.length = vs.length := l3.trans l
    simp only at h1
    cases q : callF S.F g us2 with
    | ok u os =>
      rw [q] at h1
      refine call_go l2 (hn us2 (callF_no (by rw [q]; simp))) f3 s1.2 ?_
      rw [q]
      exact fun v H2 f2 => h1 v H2 f2 ⟨(fun z => by simp [qt] at z), trivial⟩
    | ex y os =>
      rw [q] at h1
      refine call_go l2 (hn us2 (callF_no (by rw [q]; simp))) f3 s1.2 ?_
      rw [q]
      exact h1
    | no => rw [q] at h1; exact h1.elim
theorem s_call (ok : Kept X S lvl g n) (hr : Room lvl X.A) (hgd : X.A.guards = some []) (hg : Gl X x) (hm : X.mg x = some (.ref (S.fa g))) (tk : Takes X S.W) (ha : PA X (e :: es) (lA S cs)) (hn : ∀ us, S.F g us ≠ .no → us.length = n) (hdb : (x == ("__debug__" : Str)) = false)
    (he : starEach (e :: es) X.env = (false, eval e X.env) :: starEach es X.env) (hpl : (backTo pos (starEach es X.env)).any (·.1) = false) : PE X (.Call (.Name x p) (e :: es) [] pos) (lE S (.call g cs)) := by
  refine ⟨fun pins s σ H Q I h => ?_⟩
  refine wpAny_Call_Name_kw (ld_glob I hg hm (PySem.W.callWith_K (h₀ := X.base) I.ok.mod.kin ok.kp ?_ he hpl) hdb)
  exact thn (ha.run pos pins s σ H _ I (call_get hn h)) fun us s1 ⟨vs, H1, I1, r, q⟩ => ⟨I1.kIn, ok.call hr hgd tk I1 r q⟩
/-- f() -/
theorem s_call0 (ok : Kept X S lvl g n) (hr : Room lvl X.A) (hgd : X.A.guards = some []) (hg : Gl X x) (hm : X.mg x = some (.ref (S.fa g))) (tk : Takes X S.W) (hn : ∀ us, S.F g us ≠ .no → us.length = n) (hdb : (x == ("__debug__" : Str)) = false) : PE X (.Call (.Name x p) [] [] pos) (lE S (.call g .nil)) := by
  refine ⟨fun pins s σ H Q I h => ?_⟩
  obtain ⟨T, env, f, h⟩ := call_get hn h
  rw [evs] at h
  exact wpAny_Call_Name_kw (ld_glob I hg hm (PySem.W.callWith_K0 I.kIn ok.kp (ok.call (us := []) hr hgd tk I .nil (h [] H rfl f ⟨fun _ => Same.refl _, trivial⟩))) hdb)
/-- a def that a slot holds -/
theorem s_calv {i m : Nat} {ar : Nat → Nat} (ok : ∀ g, g < m → Kept X S lvl g (ar g)) (hF : ∀ g us, S.F g us ≠ .no → g < m ∧ us.length = ar g) (hr : Room lvl X.A) (hgd : X.A.guards = some []) (hN : X.N[i]? = some x) (hv : Vis X.env.scope x) (tk : Takes X S.W) (ha : PA X (e :: es) (lA S cs))
    (hdb : (x == ("__debug__" : Str)) = false) (hcd : (x == ("__classdict__" : Str)) = false)
    (he : starEach (e :: es) X.env = (false, eval e X.env) :: starEach es X.env) (hpl : (backTo pos (starEach es X.env)).any (·.1) = false) : PE X (.Call (.Name x p) (e :: es) [] pos) (lE S (.calv i cs)) := by
  refine ⟨fun pins s σ H Q I h => ?_⟩
  obtain ⟨T, env, f, h⟩ := h
  rw [ev] at h
  split at h
  · rename_i g hs
    obtain ⟨w, hw, fw⟩ := f.look hs trivial rfl
    have ew : w = .ref (S.fa g) := by
      obtain ⟨D, A, h2⟩ := fw.head
      exact h2.2
    subst ew
    by_cases hg : g < m
    · have h : out ((evs S.F cs env).bd fun us e1 => match callF S.F g us with
        | .ok u os => .ok u (back cs os e1)
        | .ex x os => .ex x (back cs os e1)
        | .no => .no) (fun u e1 => ∀ v H1, S.fr H1 ((u, v) :: T) e1 σ → Sid (.calv i cs) σ H v H1 → Q v H1) (xw S T σ) := by
        cases q : evs S.F cs env with
        | ok us e1 => rw [q] at h; exact h
        | ex y e1 => rw [q] at h; exact h.elim
        | no => rw [q] at h; exact h.elim
      have hcall := call_mid (c := .calv i cs) (by simp [qt]) (fun _ => trivial) (fun us z => (hF g us (callF_no z)).2) f h
      refine wpAny_Call_Name_kw (thn ((pe_var (pos := p) hN hv hdb hcd).run pins s σ H (fun v H1 => v = .ref (S.fa g) ∧ H1 = H) I ⟨_, hw, rfl, rfl⟩) fun u s1 ⟨v, H1, I1, r1, q1⟩ => ?_)
      obtain ⟨rfl, rfl⟩ := q1
      cases r1
      refine PySem.W.callWith_K (h₀ := X.base) I.ok.mod.kin (ok g hg).kp ?_ he hpl
      exact thn (ha.run pos pins s1 σ _ _ I1 hcall) fun us s2 ⟨vs, H2, I2, r, q⟩ => ⟨I2.kIn, (ok g hg).call hr hgd tk I2 r q⟩
    · exfalso
      cases q : evs S.F cs env with
      | ok us e1 =>
        rw [q] at h
        have h : out (match callF S.F g us with
        | .ok u os => .ok u (back cs os e1)
        | .ex x os => .ex x (back cs os e1)
        | .no => .no) (fun u e1 => ∀ v H1, S.fr H1 ((u, v) :: T) e1 σ → Sid (.calv i cs) σ H v H1 → Q v H1) (xw S T σ) := h
        cases q2 : callF S.F g us with
        | no => rw [q2] at h; exact h
        | _ => exact hg (hF g us (callF_no (by rw [q2]; simp))).1
      | ex y e1 => rw [q] at h; exact h
      | no => rw [q] at h; exact h
  · exact h.elim
end
end Fi
/-! Calls with keywords. -/
namespace Fi
open PySem PySem.Spec PyProof.Rows L2
def permL {α : Type} (d : α) (m : Nat) (p : List Nat) (us ws : List α) : List α := if us.length = m ∧ us.length + ws.length = p.length then p.map fun j => (us ++ ws).getD j d else []
abbrev pU := permL (PySem.Value.bool true)
abbrev pV := permL V.non
theorem vals_getD {vs : List V} {us : List Value} (r : Vals vs us) {j : Nat} (h : j < vs.length) : RelV (vs.getD j .non) (us.getD j (.bool true)) := by
  induction r generalizing j with
  | nil => simp at h
  | cons a r ih =>
    cases j with
    | zero => exact a
    | succ j => exact ih (by simpa using h)
theorem vals_perm {m : Nat} {p : List Nat} (hp : p.Perm (List.range p.length)) {vs zs : List V} {us ws : List Value} (r : Vals vs us) (rz : Vals zs ws) : Vals (pV m p vs zs) (pU m p us ws) := by
  unfold pV pU permL
  rw [r.length, rz.length]
  by_cases h : us.length = m ∧ us.length + ws.length = p.length
  · rw [if_pos h, if_pos h]
    have ra := r.append rz
    have : ∀ q : List Nat, (∀ j ∈ q, j < (vs ++ zs).length) → Vals (q.map fun j => (vs ++ zs).getD j V.non) (q.map fun j => (us ++ ws).getD j (Value.bool true)) := fun q => by
      induction q with
      | nil => intro _; exact .nil
      | cons j q ih => intro hq; exact .cons (vals_getD ra (hq j List.mem_cons_self)) (ih fun i hi => hq i (List.mem_cons_of_mem _ hi))
    refine this p fun j hj => ?_
    rw [List.length_append, r.length, rz.length, h.2]
    exact List.mem_range.mp (hp.mem_iff.mp hj)
  · rw [if_neg h, if_neg h]; exact .nil
/-- the keywords' values -/
structure KwOk (K : PySem.W.Frag) (fd : FuncData) (ps ks : List Str) (m : Nat) (p : List Nat) : Prop where
  pm : p.Perm (List.range p.length)
  kb : ∀ (s : Shared) (us ws : List Value), K.In s.heap → us.length = m → us.length + ws.length = p.length → BindsTo s fd ⟨us, ks.zip ws⟩ (ps.zip (pU m p us ws))
  ln : ps.length = p.length
section
variable {X : Cx} {S : Sur} {H : Hp} {T : List (U × V)} {σ : L2.St} {e : Expr} {es : List Expr} {kws : List Keyword} {ca : CE} {cs ck : CEs} {x : Str} {p pos kpos : Pos} {g n lvl m : Nat} {ks : List Str} {pm : List Nat} {nm : Option Str}
theorem imp_k {t t' : TA} (h : PK X kws t) (k : ∀ σ H Q, t' σ H Q → t σ H Q) : PK X kws t' := ⟨fun pos pins s σ H Q I h' => h.run pos pins s σ H Q I (k σ H Q h')⟩
theorem acons_get {Q : List V → Hp → Prop} (h : lA S (.cons ca cs) σ H Q) : tCons (lE S ca) (lA S cs) σ H Q := by
  obtain ⟨T, e, f, h⟩ := h
  rw [evs] at h
  refine ⟨T, e, f, out_mono (out_bd.mp h) (fun x e1 h1 v H1 f1 s1 => ⟨_, e1, f1, out_mono (out_bd.mp h1) (fun us e2 h2 vs H2 l f2 s2 => ?_) xw_tail⟩) fun _ _ z => z⟩
  refine h2 (v :: vs) H2 (by simp [l]) (f2.perm ?_) ⟨fun q => ?_, s1.mv, s2.2⟩
  · exact List.perm_middle
  · rw [qts] at q
    exact (s1.sm (qt2 q).1).trans (s2.1 (qt2 q).2)
theorem k_nil : PK X [] (lA S .nil) := imp_k pk_nil fun σ H Q ⟨T, e, f, h⟩ => h [] H rfl f ⟨fun _ => Same.refl H, trivial⟩
theorem k_cons (ha : PE X e (lE S ca)) (hr : PK X kws (lA S cs)) : PK X (⟨nm, e, kpos⟩ :: kws) (lA S (.cons ca cs)) := imp_k (pk_cons ha hr) fun _ _ _ h => acons_get h
theorem evs_cat {F : Nat → List U → Cr} : ∀ {a b : CEs} {e : Env}, evs F (catE a b) e = (evs F a e).bd fun us e1 => (evs F b e1).bd fun ws e2 => .ok (us ++ ws) e2
  | .nil, b, e => by
    rw [evs]
    show evs F b e = (evs F b e).bd fun ws e2 => .ok ws e2
    cases evs F b e <;> rfl
  | .cons c a, b, e => by
    show evs F (.cons c (catE a b)) e = _
    rw [evs, evs]
    cases ev F c e with
    | ok x e1 =>
      show (evs F (catE a b) e1).bd _ = ((evs F a e1).bd _).bd _
      rw [evs_cat]
      cases evs F a e1 with
      | ok us e2 =>
        show ((evs F b e2).bd _).bd _ = (evs F b e2).bd _
        cases evs F b e2 <;> rfl
      | ex y e2 => rfl
      | no => rfl
    | ex y e1 => rfl
    | no => rfl
theorem zip_perm {pm : List Nat} (hp : pm.Perm (List.range pm.length)) {us : List U} {vs : List V} (l : us.length = vs.length) (ln : us.length = pm.length) : ((pm.map fun j => us.getD j .gone).zip (pm.map fun j => vs.getD j V.non)).Perm (us.zip vs) := by
  have e : us.zip vs = (List.range pm.length).map fun j => (us.getD j .gone, vs.getD j V.non) := by
    refine List.ext_getElem (by simp [ln, ← l]) fun i h1 h2 => ?_
    have hi : i < us.length := by simp at h1; omega
    simp [List.getElem_zip, List.getD_eq_getElem?_getD, List.getElem?_eq_getElem hi, List.getElem?_eq_getElem (l ▸ hi)]
  rw [e, List.zip_map', ]
  exact hp.map _
theorem map_getD_length {pm : List Nat} {us : List U} : (pm.map fun j => us.getD j .gone).length = pm.length := by simp
theorem fr_perm {L T T' : List (U × V)} {env : Env} (f : S.fr H (L ++ T) env σ) (p : L.Perm T') : S.fr H (T' ++ T) env σ := f.perm (p.append_right T)
theorem zipApp {us ws : List U} {vs zs : List V} (l : us.length = vs.length) : (us ++ ws).zip (vs ++ zs) = us.zip vs ++ ws.zip zs := by
  induction us generalizing vs with
  | nil => cases vs with
    | nil => rfl
    | cons _ _ => cases l
  | cons u us ih => cases vs with
    | nil => cases l
    | cons v vs => exact congrArg ((u, v) :: ·) (ih (vs := vs) (by simpa using l))
/-- the callee runs -/
theorem kw_run {fd : FuncData} {ps : List Str} {pins : List (Addr × Obj)} {s : Shared} {Q : VK} {E : XK} {us ws : List Value} {vs zs : List V} {sp : Sp} (F : FnG X.prog X.w X.K X.mg X.base lvl (S.fa g) fd ps sp) (hr : Room lvl X.A) (hgd : X.A.guards = some []) (kw : KwOk X.K fd ps ks m pm) (hx : PassesAt (L2.CX X.prog X.w) X σ E)
    (I : Inv X pins σ H s) (r : Vals vs us) (rz : Vals zs ws) (h1 : vs.length = m) (h2 : vs.length + zs.length = pm.length) (h : sp (pV m pm vs zs) H Q E) : wpAny (model X.prog X.w) X.A (call (.ref (S.fa g)) us (ks.zip ws)) (EP X pins σ Q) X.xe s := by
  have go := F.call hr hgd (kw.kb s us ws I.kIn (by rw [← r.length]; exact h1) (by rw [← r.length, ← rz.length]; exact h2)) hx I (vals_perm kw.pm r rz) h
  refine wpAny_call (codeAny_mono go fun res s' q => ?_)
  cases res with
  | error e => exact q
  | ok fl => cases fl <;> exact q
/-- arguments and keywords at hand -/
theorem kw_go {us ws : List U} {vs zs : List V} {Q : VK} {env : Env} (kp : pm.Perm (List.range pm.length)) (hl : us.length = vs.length) (hl2 : ws.length = zs.length) (h1 : us.length = m) (h2 : us.length + ws.length = pm.length) (hn : ∀ us, S.F g us ≠ .no → us.length = n) (f : S.fr H (ws.zip zs ++ (us.zip vs ++ T)) env σ)
    (h : match callF S.F g (pm.map fun j => (us ++ ws).getD j .gone) with
      | .ok u os => ∀ v H1, S.fr H1 ((u, v) :: T) env σ → Q v H1
      | .ex x os => xw S T σ x env
      | .no => False) : spC S.K S.mg S.fa S.F g n (pV m pm vs zs) H Q (WE S.W σ) := by
  have e1 : pV m pm vs zs = pm.map fun j => (vs ++ zs).getD j V.non := by
    unfold pV permL
    rw [if_pos ⟨by rw [← hl]; exact h1, by rw [← hl, ← hl2]; exact h2⟩]
  have f2 : S.fr H (((pm.map fun j => (us ++ ws).getD j .gone).zip (pV m pm vs zs)) ++ T) env σ := by
    rw [e1]
    have g1 : S.fr H ((ws.zip zs ++ us.zip vs) ++ T) env σ := by rw [List.append_assoc]; exact f
    refine fr_perm g1 ((List.perm_append_comm.trans ?_).trans (zip_perm kp (us := us ++ ws) (vs := vs ++ zs) (by simp [hl, hl2]) (by rw [List.length_append]; exact h2)).symm)
    rw [zipApp hl]
  have hlen : (pm.map fun j => (us ++ ws).getD j .gone).length = (pV m pm vs zs).length := by rw [e1]; simp
  refine call_go (cs := .nil) hlen (hn _ fun z => ?_) f2 trivial ?_
  · unfold callF at h
    rw [z] at h
    rw [ite_self] at h
    exact h
  · cases q : callF S.F g (pm.map fun j => (us ++ ws).getD j .gone) with
    | ok u os =>
      rw [q] at h
      have : back .nil os env = env := by cases os <;> rfl
      show ∀ v H1, S.fr H1 ((u, v) :: T) (back .nil os env) σ → Q v H1
      rw [this]; exact h
    | ex y os =>
      rw [q] at h
      have : back .nil os env = env := by cases os <;> rfl
      show xw S T σ y (back .nil os env)
      rw [this]; exact h
    | no => rw [q] at h; exact h
/-- f(e, .., k = v, ..) -/
structure KwCall (X : Cx) (S : Sur) (lvl g n m : Nat) (ks : List Str) (pm : List Nat) : Prop where
  ex : ∃ (fd : FuncData) (ps : List Str), FnG X.prog X.w X.K X.mg X.base lvl (S.fa g) fd ps (spC S.K S.mg S.fa S.F g n) ∧ KwOk X.K fd ps ks m pm
  kp : PySem.W.keepIn X.K (.ref (S.fa g)) = true
  pm : pm.Perm (List.range pm.length)
theorem s_callk (ok : KwCall X S lvl g n m ks pm) (hr : Room lvl X.A) (hgd : X.A.guards = some []) (hg : Gl X x) (hm : X.mg x = some (.ref (S.fa g))) (tk : Takes X S.W) (hn : ∀ us, S.F g us ≠ .no → us.length = n)
    (h1 : cs.len = m) (h2 : cs.len + ck.len = pm.length) (ha : PA X es (lA S cs)) (hkw : PK X kws (lA S ck)) (hne : (es = [] ∧ cs = .nil) ∨ ∃ e r, es = e :: r ∧ starEach (e :: r) X.env = (false, eval e X.env) :: starEach r X.env) (hall : (backToKw pos (keywordEach kws X.env)).all (·.1.isSome) = true) (hks : (backToKw pos (keywordEach kws X.env)).filterMap (·.1) = ks)
    (hdb : (x == ("__debug__" : Str)) = false)
    (hpl : ((backTo pos (starEach es X.env)).any (·.1) || (backToKw pos (keywordEach kws X.env)).any (·.1.isNone)) = false) :
    PE X (.Call (.Name x p) es kws pos) (lE S (.callk g pm (catE cs ck))) := by
  refine ⟨fun pins s σ H Q I h => ?_⟩
  obtain ⟨T, env, f, h⟩ := h
  rw [ev, evs_cat] at h
  obtain ⟨fd, ps, F, kw⟩ := ok.ex
  have h := out_eq (out_bd.mp (out_bd.mp h))
  have fin : ∀ {us : List U} {vs : List V} {ws : List U} {zs : List V} {e1 e2 : Env} {H2 : Hp} {pins : List (Addr × Obj)} {s2 : Shared} {uu : List Value} {ww : List Value}, us.length = cs.len → ws.length = ck.len → us.length = vs.length → ws.length = zs.length → S.fr H2 (ws.zip zs ++ (us.zip vs ++ T)) e2 σ → Inv X pins σ H2 s2 → Vals vs uu → Vals zs ww →
      out (match callF S.F g (pm.map fun j => (us ++ ws).getD j .gone) with
        | .ok u os => Rs.ok u e2
        | .ex x os => .ex x e2
        | .no => .no) (fun u e1 => ∀ v H1, S.fr H1 ((u, v) :: T) e1 σ → Sid (.callk g pm (catE cs ck)) σ H v H1 → Q v H1) (xw S T σ) →
      wpAny (model X.prog X.w) X.A (call (.ref (S.fa g)) uu (ks.zip ww)) (EP X pins σ Q) X.xe s2 := by
    intro us vs ws zs e1 e2 H2 pins s2 uu ww a1 a2 l1 l2 f2 I2 r rz h2'
    refine kw_run F hr hgd kw (passAt tk σ) I2 r rz (by rw [← l1, a1]; exact h1) (by rw [← l1, ← l2, a1, a2]; exact h2) ?_
    refine kw_go ok.pm l1 l2 (by rw [a1]; exact h1) (by rw [a1, a2]; exact h2) hn f2 ?_
    cases q : callF S.F g (pm.map fun j => (us ++ ws).getD j .gone) with
    | ok u os =>
      rw [q] at h2'
      exact fun v H3 f3 => h2' v H3 f3 ⟨fun z => by simp [qt] at z, trivial⟩
    | ex y os => rw [q] at h2'; exact h2'
    | no => rw [q] at h2'; exact h2'.elim
  have kwgo : ∀ {us : List U} {vs : List V} {e1 : Env} {H1 : Hp} {pins : List (Addr × Obj)} {s1 : Shared} {uu : List Value}, us.length = cs.len → us.length = vs.length → S.fr H1 (us.zip vs ++ T) e1 σ → Inv X pins σ H1 s1 → Vals vs uu →
      out (((evs S.F ck e1).bd fun ws e2 => .ok (us ++ ws) e2).bd fun us e1 => match callF S.F g (pm.map fun j => us.getD j .gone) with
        | .ok u os => Rs.ok u e1
        | .ex x os => .ex x e1
        | .no => .no) (fun u e1 => ∀ v H1, S.fr H1 ((u, v) :: T) e1 σ → Sid (.callk g pm (catE cs ck)) σ H v H1 → Q v H1) (xw S T σ) →
      wpAny (model X.prog X.w) X.A (evalAll ((backToKw pos (keywordEach kws X.env)).map (·.2))) (fun ks2 s₂ => X.K.In s₂.heap ∧ wpAny (model X.prog X.w) X.A (call (.ref (S.fa g)) uu (((backToKw pos (keywordEach kws X.env)).filterMap (·.1)).zip ks2)) (EP X pins σ Q) X.xe s₂) X.xe s1 := by
    intro us vs e1 H1 pins s1 uu a1 l1 f1 I1 r h'
    have h' := out_eq (out_bd.mp (out_bd.mp h'))
    refine thn (hkw.run pos pins s1 σ H1 (fun zs H2 => ∃ ws e2, ws.length = zs.length ∧ ws.length = ck.len ∧ S.fr H2 (ws.zip zs ++ (us.zip vs ++ T)) e2 σ ∧ out (match callF S.F g (pm.map fun j => (us ++ ws).getD j .gone) with
        | .ok u os => Rs.ok u e2
        | .ex x os => .ex x e2
        | .no => .no) (fun u e1 => ∀ v H1, S.fr H1 ((u, v) :: T) e1 σ → Sid (.callk g pm (catE cs ck)) σ H v H1 → Q v H1) (xw S T σ)) I1 ⟨_, e1, f1, out_mono h' (fun ws e2 h2 zs H2 l2 f2 s2 => ⟨ws, e2, l2, evs_len h2.1, f2, h2.2⟩) ?_⟩) fun ww s2 ⟨zs, H2, I2, rz, ws, e2, l2, a2, f2, h2⟩ => ⟨I2.kIn, ?_⟩
    · intro y e2 hw cls d H2 k
      exact hw cls d H2 (k.map fun {u v} g => by
        have g1 : S.fr H2 ((us.zip vs ++ ((u, v) :: T))) e2 σ := g.perm List.perm_middle.symm
        exact g1.drop)
    · rw [hks]
      exact fin (e1 := e1) a1 a2 l1 l2 f2 I2 r rz h2
  refine wpAny_Call_Name_kw (ld_glob I hg hm ?_ hdb)
  rcases hne with ⟨rfl, rfl⟩ | ⟨e, r, rfl, he⟩
  · refine PySem.W.callWith_KW0 (h₀ := X.base) I.ok.mod.kin ok.kp hall ?_ hpl
    rw [evs] at h
    have := kwgo (us := []) (vs := []) (e1 := env) (uu := []) rfl rfl f I .nil (out_bd.mpr h.2)
    exact this
  · refine PySem.W.callWith_KW (h₀ := X.base) I.ok.mod.kin ok.kp hall (thn (ha.run pos pins s σ H (fun vs H1 => ∃ us e1, us.length = vs.length ∧ us.length = cs.len ∧ S.fr H1 (us.zip vs ++ T) e1 σ ∧ out (((evs S.F ck e1).bd fun ws e2 => .ok (us ++ ws) e2).bd fun us e1 => match callF S.F g (pm.map fun j => us.getD j .gone) with
        | .ok u os => Rs.ok u e1
        | .ex x os => .ex x e1
        | .no => .no) (fun u e1 => ∀ v H1, S.fr H1 ((u, v) :: T) e1 σ → Sid (.callk g pm (catE cs ck)) σ H v H1 → Q v H1) (xw S T σ)) I ⟨T, env, f, ?_⟩) fun uu s1 ⟨vs, H1, I1, r, us, e1, l1, a1, f1, h1⟩ => ?_) hpl he
    · exact out_mono h (fun us e1 h1 vs H1 l f1 s1 => ⟨us, e1, l, evs_len h1.1, f1, out_bd.mpr h1.2⟩) fun _ _ z => z
    · exact kwgo a1 l1 f1 I1 r h1
end
end Fi
/-! Methods of texts and dicts. -/
namespace Fi
open PySem PySem.Spec PyProof.Rows L2
def rGet : V → List V → Hp → VK → Prop := fun x vs H Q => ∃ a, x = .ref a ∧ ((∃ y o, vs = [y] ∧ DGet H a y o ∧ Q (o.getD .non) H) ∨ ∃ y z o, vs = [y, z] ∧ DGet H a y o ∧ Q (o.getD z) H)
theorem mt_dget {X : Cx} (hu : X.A.units + 1 < cLine) : MtR X "dict.get" rGet := by
  intro pins s σ H x vs v us Q I rx rv h
  obtain ⟨a, rfl, h⟩ := h
  cases rx
  rcases h with ⟨y, o, rfl, g, q⟩ | ⟨y, z, o, rfl, g, q⟩
  · obtain ⟨u, rfl, ru⟩ := rv.one
    exact d_get1 hu I g ru fun w' s' I' r' => ⟨_, H, I', r', q⟩
  · obtain ⟨u, w, rfl, ru, rw'⟩ := rv.two
    exact d_get2 hu I g ru rw' fun w' s' I' r' => ⟨_, H, I', r', q⟩
def MeS (S : Sur) (r : V → List V → Hp → VK → Prop) (m : Me) : Prop := ∀ (H : Hp) (T : List (U × V)) (e : Env) (σ : L2.St) (x : U) (v : V) (us : List U) (z : U) (vs : List V) (Q : VK), us.length = vs.length → S.fr H (us.zip vs ++ ((x, v) :: T)) e σ → meU m e x us = some z →
  (∀ v H1, S.fr H1 ((z, v) :: T) e σ → Same H H1 → Q v H1) → r v vs H Q
/-- the receiver is of the type -/
def TyS (S : Sur) (T : String) (m : Me) : Prop := ∀ (H : Hp) (L : List (U × V)) (e : Env) (σ : L2.St) (x : U) (v : V), S.fr H ((x, v) :: L) e σ → meTy m e x = true → tyV S.K T v H
section
variable {X : Cx} {S : Sur} {H : Hp} {T : List (U × V)} {σ : L2.St} {o a : Expr} {es : List Expr} {co : CE} {cs : CEs} {apos cpos : Pos} {ty id : String} {name : Str} {m : Me} {r : V → List V → Hp → VK → Prop}
theorem me_get {Q : VK} (ms : MeS S r m) (ts : TyS S ty m) (h : lE S (.me m co cs) σ H Q) : tBM S.K ty r (lE S co) (lA S cs) σ H Q := by
  obtain ⟨T, e, f, h⟩ := h
  rw [ev] at h
  refine ⟨T, e, f, out_mono (out_bd.mp h) (fun x e1 h1 v H1 f1 s1 => ?_) fun _ _ z => z⟩
  split at h1
  · rename_i ht
    refine ⟨ts H1 T e1 σ x v f1 ht, _, e1, f1, out_mono (out_bd.mp h1) (fun us e2 h2 vs H2 l f2 s2 => ?_) xw_tail⟩
    obtain ⟨z, ez, k⟩ := out_lift h2
    exact ms H2 T e2 σ x v us z vs Q l f2 ez fun w H3 f3 s3 => k w H3 f3 ⟨fun q => by simp [qt] at q, trivial⟩
  · exact h1.elim
theorem s_me (hK : X.K = S.K) (ms : MeS S r m) (ts : TyS S ty m) (pa : PlainAttrs ty) (slot : Slot ty name id) (hty : typeOf (.builtin id) = pure (.type "method_descriptor")) (hm : MtR X id r) (ho : PE X o (lE S co)) (ha : PA X (a :: es) (lA S cs))
    (hbase : attributeBase o name X.env (eval o X.env) = eval o X.env)
    (hfew : ((backTo cpos (starEach (a :: es) X.env)).all (fun x => !x.1) && (backToKw cpos (keywordEach [] X.env)).all (fun x => x.1.isSome)
      && decide ((a :: es).length + ([] : List Keyword).length + (if ([] : List Keyword).isEmpty then 0 else 1) < 30)) = true)
    (hline : (apos.endLine == cpos.line) = true) (hs : starEach (a :: es) X.env = (false, eval a X.env) :: starEach es X.env) (hplain : (backTo cpos (starEach es X.env)).any (·.1) = false) : PE X (.Call (.Attribute o name apos) (a :: es) [] cpos) (lE S (.me m co cs)) :=
  imp_e (pe_bm pa slot hty hm ho ha hbase hfew hline hs hplain) fun _ _ _ h => by rw [hK]; exact me_get ms ts h
theorem s_me0 (hK : X.K = S.K) (ms : MeS S r m) (ts : TyS S ty m) (pa : PlainAttrs ty) (slot : Slot ty name id) (hty : typeOf (.builtin id) = pure (.type "method_descriptor")) (hm : MtR X id r) (ho : PE X o (lE S co))
    (hbase : attributeBase o name X.env (eval o X.env) = eval o X.env) (hline : (apos.endLine == cpos.line) = true) : PE X (.Call (.Attribute o name apos) [] [] cpos) (lE S (.me m co .nil)) :=
  imp_e (pe_bm0 pa slot hty hm ho hbase hline) fun σ H Q h => by
    rw [hK]
    obtain ⟨T, e, f, h⟩ := me_get ms ts h
    refine ⟨T, e, f, out_mono h (fun x e1 h1 v H1 f1 s1 => ?_) fun _ _ z => z⟩
    obtain ⟨t1, T2, e2, f2, h2⟩ := h1 v H1 f1 s1
    rw [evs] at h2
    exact ⟨t1, h2 [] H1 rfl f2 ⟨fun _ => Same.refl _, trivial⟩⟩
/-! ### the rules -/
theorem ty_str (m : Me) (h1 : m ≠ .get) : TyS S "str" m := fun H L e σ x v f h => by
  have : ∃ z, x = .d (.str z) := by
    unfold meTy at h
    split at h
    · exact absurd rfl h1
    · cases h
    · exact ⟨_, rfl⟩
    · cases h
  obtain ⟨z, rfl⟩ := this
  have := f.dstr
  subst this
  rfl
theorem ty_get : TyS S "dict" .get := fun H L e σ x v f h => by
  have h : (dctv e x).isSome = true := h
  obtain ⟨kvs, hk⟩ := Option.isSome_iff_exists.mp h
  obtain ⟨a, ws, rfl, ha, _, _⟩ := dcD f hk
  exact .inr (.inr (.inl ⟨rfl, .inl ⟨ws, ha⟩⟩))
theorem fr_flip {p q : U × V} {e : Env} (f : S.fr H (p :: q :: T) e σ) : S.fr H (q :: p :: T) e σ := f.perm (.swap _ _ _)
theorem ob {α β : Type} {o : Option α} {f : α → Option β} {z : β} (h : o.bind f = some z) : ∃ a, o = some a ∧ f a = some z := Option.bind_eq_some_iff.mp h
theorem oif {α : Type} {p : Prop} [Decidable p] {a z : α} (h : (if p then some a else none) = some z) : p ∧ z = a := by
  split at h
  · cases h; exact ⟨‹_›, rfl⟩
  · cases h
theorem strA_of {x : U} {a : Str} (h : strA x = some a) : x = .d (.str a) := by
  unfold strA at h
  split at h
  · cases h; rfl
  · cases h
/-- an entry -/
theorem get_go {x : U} {v y : V} {k : PyData} {kvs : List (PyData × PyData)} {e : Env} (f : S.fr H ((x, v) :: (.d k, y) :: T) e σ) (h : dctv e x = some kvs) (hk : (keyOf k).isSome = true) : ∃ a o, v = .ref a ∧ DGet H a y o ∧ ((lookD k kvs = none ∧ o = none ∧ S.fr H T e σ) ∨ ∃ d w, lookD k kvs = some d ∧ o = some w ∧ S.fr H ((.d d, w) :: T) e σ) := by
  obtain ⟨a, ws, rfl, ha, hm, d⟩ := dcD f h
  obtain ⟨key, ek⟩ := Option.isSome_iff_exists.mp hk
  have ey : y = kV key := by
    have := keyD_of ek
    subst this
    cases key with
    | inl i => exact d.2.dint
    | inr i => exact d.2.dstr
  have hl : (kvs.map (·.2)).length = (ws.map (·.2)).length := by
    have := congrArg List.length hm
    simpa using this
  refine ⟨a, valV ws key, rfl, by rw [ey]; exact DGet.k ha, ?_⟩
  rcases look_val ek hm hl with ⟨i, x, w, e1, e2, e3, e4⟩ | ⟨e1, e2⟩
  · exact .inr ⟨x, w, e1, e4, (d.item e2 e3).swap.tail⟩
  · exact .inl ⟨e1, e2, d.2.tail⟩
theorem m_get : MeS S rGet .get := fun H T e σ x v us z vs Q l f h k => by
  have h : getU e x us = some z := h
  unfold getU at h
  split at h
  · rename_i kk _
    match vs, l with
    | [y], _ =>
      have f : S.fr H ((.d kk, y) :: (x, v) :: T) e σ := f
      obtain ⟨kvs, h1, h2⟩ := ob h
      obtain ⟨h3, rfl⟩ := oif h2
      obtain ⟨a, o, rfl, g, h4⟩ := get_go f.swap h1 h3
      refine ⟨a, rfl, .inl ⟨y, o, rfl, g, ?_⟩⟩
      rcases h4 with ⟨e1, rfl, f4⟩ | ⟨d, w, e1, rfl, f4⟩
      · exact k _ H (by rw [e1]; exact f4.non) (Same.refl H)
      · exact k _ H (by rw [e1]; exact f4) (Same.refl H)
  · rename_i kk zz _
    match vs, l with
    | [y, w0], _ =>
      have f : S.fr H ((.d kk, y) :: (.d zz, w0) :: (x, v) :: T) e σ := f
      obtain ⟨kvs, h1, h2⟩ := ob h
      obtain ⟨h3, rfl⟩ := oif h2
      have f2 : S.fr H ((x, v) :: (.d kk, y) :: (.d zz, w0) :: T) e σ := f.perm (.symm (List.perm_middle (l₁ := [(.d kk, y), (.d zz, w0)]) (a := (x, v))).symm)
      obtain ⟨a, o, rfl, g, h4⟩ := get_go f2 h1 h3
      refine ⟨a, rfl, .inr ⟨y, w0, o, rfl, g, ?_⟩⟩
      rcases h4 with ⟨e1, rfl, f4⟩ | ⟨d, w, e1, rfl, f4⟩
      · exact k _ H (by rw [e1]; exact f4) (Same.refl H)
      · exact k _ H (by rw [e1]; exact f4.swap.tail) (Same.refl H)
  · cases h
theorem m_upper : MeS S (fun x xs H Q => ∃ a, x = .str a ∧ xs = [] ∧ a.length ≤ 5592405 ∧ Q (.str (Txt.upper a)) H) .upper := fun H T e σ x v us z vs Q l f h k => by
  have h : upperU x us = some z := h
  unfold upperU at h
  split at h
  · match vs, l with
    | [], _ =>
      obtain ⟨a, h1, h2⟩ := ob h
      obtain ⟨h3, rfl⟩ := oif h2
      have := strA_of h1
      subst this
      have f : S.fr H ((.d (.str a), v) :: T) e σ := f
      exact ⟨a, f.dstr, rfl, Nat.le_trans h3 (by decide), k _ H f.tail.str (Same.refl H)⟩
  · cases h
theorem m_starts : MeS S (fun x xs H Q => ∃ a b, x = .str a ∧ xs = [.str b] ∧ Q (.bl (Txt.startswith a b)) H) .startswith := fun H T e σ x v us z vs Q l f h k => by
  have h : startsU x us = some z := h
  unfold startsU at h
  split at h
  · rename_i u _
    match vs, l with
    | [y], _ =>
      obtain ⟨a, h1, h2⟩ := ob h
      obtain ⟨b, h3, h4⟩ := ob h2
      cases h4
      have := strA_of h1
      subst this
      have := strA_of h3
      subst this
      have f : S.fr H ((.d (.str b), y) :: (.d (.str a), v) :: T) e σ := f
      have e1 := f.dstr
      subst e1
      exact ⟨a, b, f.tail.dstr, rfl, k _ H f.tail.tail.bl (Same.refl H)⟩
  · cases h
theorem m_split : MeS S (fun x xs H Q => ∃ a b, x = .str a ∧ xs = [.str b] ∧ (b.length == 0) = false ∧ a.length + 2 ≤ sizeLine ∧ rNewStrs (Txt.split a b) H Q) .split := fun H T e σ x v us z vs Q l f h k => by
  have h : splitU x us = some z := h
  unfold splitU at h
  split at h
  · rename_i u _
    match vs, l with
    | [y], _ =>
      obtain ⟨a, h1, h2⟩ := ob h
      obtain ⟨b, h3, h4⟩ := ob h2
      obtain ⟨⟨h5, h6⟩, rfl⟩ := oif h4
      have := strA_of h1
      subst this
      have := strA_of h3
      subst this
      have f : S.fr H ((.d (.str b), y) :: (.d (.str a), v) :: T) e σ := f
      have e1 := f.dstr
      subst e1
      refine ⟨a, b, f.tail.dstr, rfl, h6, ?_, fun p hp => ?_⟩
      · have : most = 100000 := rfl
        rw [PySem.sizeLine_eq]; omega
      · refine k _ _ (Frm.one (T1 := []) f.tail.tail (fun L r => Rel.newL' r (fun A _ => ?_) hp) rfl) (same_new hp _)
        have : ∀ zs : List Str, DqL S.K (· ∈ A) H (zs.map .str) (zs.map V.str) := fun zs => by
          induction zs with
          | nil => exact DqL.nil
          | cons z zs ih => exact DqL.cons (by unfold Dq; rfl) ih
        exact this _
  · cases h
theorem m_join : MeS S (fun x xs H Q => ∃ a p, ∃ ys : List Str, x = .str a ∧ xs = [.ref p] ∧ (SqL S.K H p (ys.map V.str) ∨ SqT S.K H p (ys.map V.str)) ∧
      (ys.map (·.length)).sum + ys.length * a.length ≤ 16777216 ∧ Q (.str (Txt.join a ys)) H) .join := fun H T e σ x v us z vs Q l f h k => by
  have h : joinU e x us = some z := h
  unfold joinU at h
  split at h
  · rename_i u _
    match vs, l with
    | [y], _ =>
      obtain ⟨a, h1, h2⟩ := ob h
      obtain ⟨ys, h3, h4⟩ := ob h2
      obtain ⟨h5, rfl⟩ := oif h4
      obtain ⟨xs, h6, h7⟩ := ob h3
      have := strA_of h1
      subst this
      have f : S.fr H ((u, y) :: (.d (.str a), v) :: T) e σ := f
      obtain ⟨p, ws, rfl, hs, d⟩ := svD f h6
      obtain ⟨D, dq⟩ := d.dq
      have := dqL_allS dq h7
      subst this
      exact ⟨a, p, ys, d.2.dstr, rfl, hs, Nat.le_trans h5 (by decide), k _ H f.tail.tail.str (Same.refl H)⟩
  · cases h
end
end Fi
/-! Paths into own trees. -/
namespace Fi
open PySem PySem.Spec PyProof.Rows L2
/-- what stands at a path -/
inductive PV (H : Hp) : V → List PyData → V → Prop
  | nil {v} : PV H v [] v
  | lst {a vs i w ks z} : H a = some (.lst vs) → atI vs i = some w → PV H w ks z → PV H (.ref a) (.int i :: ks) z
  | dic {a ws key w ks z} : H a = some (.dK ws) → valV ws key = some w → PV H w ks z → PV H (.ref a) (keyD key :: ks) z
theorem keyD_inj {a b : Key} (h : keyD a = keyD b) : a = b := by
  have := congrArg keyOf h
  rw [keyOf_keyD, keyOf_keyD] at this
  cases this; rfl
theorem PV.det {H : Hp} {v : V} {ks : List PyData} {w z : V} (h : PV H v ks w) (h2 : PV H v ks z) : w = z := by
  induction h generalizing z with
  | nil => cases h2; rfl
  | @lst a vs i w ks z' e1 e2 _ ih =>
    generalize hk : PyData.int i = k at h2
    generalize hv : V.ref a = v at h2
    cases h2 with
    | lst e3 e4 h =>
      cases hk; cases hv
      rw [e1] at e3; cases e3
      rw [e2] at e4; cases e4
      exact ih h
    | dic e3 e4 h => cases hv; rw [e1] at e3; cases e3
  | @dic a ws key w ks z' e1 e2 _ ih =>
    generalize hk : keyD key = k at h2
    generalize hv : V.ref a = v at h2
    cases h2 with
    | lst e3 e4 h => cases hv; rw [e1] at e3; cases e3
    | dic e3 e4 h =>
      cases hv
      have := keyD_inj hk
      subst this
      rw [e1] at e3; cases e3
      rw [e2] at e4; cases e4
      exact ih h
theorem PV.same {H H' : Hp} (g : Same H H') {v : V} {ks : List PyData} {w : V} (h : PV H v ks w) : PV H' v ks w := by
  induction h with
  | nil => exact .nil
  | lst e1 e2 _ ih => exact .lst (g _ _ e1) e2 ih
  | dic e1 e2 _ ih => exact .dic (g _ _ e1) e2 ih
theorem PV.snoc {H : Hp} {v : V} {ks : List PyData} {w : V} {k : PyData} {z : V} (h : PV H v ks w) (h2 : PV H w [k] z) : PV H v (ks ++ [k]) z := by
  induction h with
  | nil => exact h2
  | lst e1 e2 _ ih => exact .lst e1 e2 (ih h2)
  | dic e1 e2 _ ih => exact .dic e1 e2 (ih h2)
theorem erase_perm {α : Type} : ∀ {l : List α} {j : Nat} {x : α}, l[j]? = some x → l.Perm (x :: l.eraseIdx j)
  | [], _, _, h => by simp at h
  | y :: l, 0, x, h => by
    have h : some y = some x := by simpa using h
    cases h
    exact .refl _
  | y :: l, j + 1, x, h => ((erase_perm (l := l) (j := j) (by simpa using h)).cons y).trans (.swap _ _ _)
theorem zperm {A : List U} {vs : List V} {j : Nat} {p : U} {w : V} (h1 : A[j]? = some p) (h2 : vs[j]? = some w) : (A.zip vs).Perm ((p, w) :: (A.zip vs).eraseIdx j) := by
  have h3 : (A.zip vs)[j]? = some (p, w) := by
    rw [List.getElem?_zip_eq_some]; exact ⟨h1, h2⟩
  exact erase_perm h3
theorem zset {A : List U} {vs : List V} {j : Nat} {q : U} : ((A.set j q).zip vs).eraseIdx j = (A.zip vs).eraseIdx j := by
  induction A generalizing vs j with
  | nil => rfl
  | cons a A ih =>
    cases vs with
    | nil => cases j <;> rfl
    | cons v vs =>
      cases j with
      | zero => rfl
      | succ j =>
        show (a, v) :: ((A.set j q).zip vs).eraseIdx j = (a, v) :: (A.zip vs).eraseIdx j
        rw [ih]
theorem zperm2 {A : List U} {vs : List V} {j : Nat} {p q : U} {w : V} (h1 : A[j]? = some p) (h2 : vs[j]? = some w) : ((A.set j q).zip vs).Perm ((q, w) :: (A.zip vs).eraseIdx j) := by
  have := zperm (A := A.set j q) (p := q) (by
    obtain ⟨hj, _⟩ := List.getElem?_eq_some_iff.mp h1
    exact List.getElem?_set_self hj) h2
  rw [zset] at this
  exact this
theorem lookO_at {key : Key} {y : O} : ∀ {kvs : List (Key × O)}, lookO key kvs = some y → ∃ j, kvs[j]? = some (key, y) ∧ (∀ z, setO key z kvs = kvs.set j (key, z)) ∧ ∀ (ws : List (Key × V)), ws.map (·.1) = kvs.map (·.1) → ∃ w, ws[j]? = some (key, w) ∧ valV ws key = some w
  | [], h => by cases h
  | (k1, x) :: kvs, h => by
    have h : (if k1 = key then some x else lookO key kvs) = some y := h
    by_cases q : k1 = key
    · rw [if_pos q] at h
      cases h
      subst q
      refine ⟨0, rfl, fun z => ?_, fun ws hw => ?_⟩
      · unfold setO
        rw [if_pos rfl]; rfl
      · cases ws with
        | nil => cases hw
        | cons p ws =>
          obtain ⟨k2, w⟩ := p
          rw [List.map_cons, List.map_cons] at hw
          injection hw with h1 h2
          have h1 : k2 = k1 := h1
          subst h1
          refine ⟨w, rfl, ?_⟩
          unfold valV
          rw [List.find?_cons, show decide ((k2, w).1 = k2) = true from decide_eq_true rfl]
          rfl
    · rw [if_neg q] at h
      obtain ⟨j, h1, h2, h3⟩ := lookO_at h
      refine ⟨j + 1, h1, fun z => ?_, fun ws hw => ?_⟩
      · show (if k1 = key then (key, z) :: kvs else (k1, x) :: setO key z kvs) = _
        rw [if_neg q, h2]; rfl
      · cases ws with
        | nil => cases hw
        | cons p ws =>
          obtain ⟨k2, w⟩ := p
          rw [List.map_cons, List.map_cons] at hw
          injection hw with e1 e2
          have e1 : k2 = k1 := e1
          subst e1
          obtain ⟨w', i1, i2⟩ := h3 ws e2
          refine ⟨w', i1, ?_⟩
          unfold valV at i2 ⊢
          rw [List.find?_cons, show decide ((k2, w).1 = key) = false from decide_eq_false q]
          exact i2
section
variable {K : PySem.W.Frag} {fa : Nat → Addr} {H H' : Hp}
/-- a tree's part stands alone, and is put back -/
theorem foc {f : O → Option (O × U)} {u : U} : ∀ {ks : List PyData} {x x' : O} {v : V} {L : List (U × V)}, x.upd f ks = some (x', u) → Rel K fa H ((.o x, v) :: L) →
    ∃ y y' w P, f y = some (y', u) ∧ PV H v ks w ∧ x.at ks = some y ∧ Rel K fa H ((.o y, w) :: (P ++ L)) ∧ ∀ H' M, Rel K fa H' ((.o y', w) :: (P ++ M)) → Rel K fa H' ((.o x', v) :: M)
  | [], x, x', v, L, h, r => ⟨x, x', v, [], h, .nil, rfl, r, fun _ _ r => r⟩
  | k :: ks, x, x', v, L, h, r => by
    have h : (x.kid k).bind (fun y => (O.upd f y ks).bind fun p => (x.put k p.1).map fun w => (w, p.2)) = some (x', u) := h
    obtain ⟨y0, hk, h⟩ := ob h
    obtain ⟨⟨z, u2⟩, hu, h⟩ := ob h
    obtain ⟨x2, hp, he⟩ := Option.map_eq_some_iff.mp h
    obtain ⟨e1, e2⟩ := Prod.mk.inj he
    subst e1 e2
    cases x with
    | leaf d => cases hk
    | lst xs =>
      cases k with
      | int i =>
        have hk0 : atI xs i = some y0 := hk
        unfold atI at hk0
        cases q : ixN xs.length i with
        | none => rw [q] at hk0; cases hk0
        | some j =>
          rw [q] at hk0
          have hj : xs[j]? = some y0 := hk0
          have hp0 : (ixN xs.length i).map (fun j => O.lst (xs.set j z)) = some x2 := hp
          rw [q] at hp0
          cases hp0
          obtain ⟨a, vs, rfl, ha, hl, r1⟩ := r.openL
          have hjl : j < vs.length := by
            rw [hl]
            exact (List.getElem?_eq_some_iff.mp hj).1
          obtain ⟨w0, hw⟩ : ∃ w0, vs[j]? = some w0 := ⟨_, List.getElem?_eq_getElem hjl⟩
          have hA : (xs.map U.o)[j]? = some (.o y0) := by rw [List.getElem?_map, hj]; rfl
          have p1 := zperm hA hw
          have r2 : Rel K fa H ((.o y0, w0) :: ((.r (.lst vs), .ref a) :: (((xs.map U.o).zip vs).eraseIdx j ++ L))) := r1.perm (((p1.append_right L).cons _).trans (.swap _ _ _))
          obtain ⟨y, y', w, P, h1, h2, h3, h4, h5⟩ := foc hu r2
          refine ⟨y, y', w, P ++ ((.r (.lst vs), .ref a) :: ((xs.map U.o).zip vs).eraseIdx j), h1, .lst ha ?_ h2, ?_, ?_, fun H' M rr => ?_⟩
          · unfold atI; rw [hl, q]; exact hw
          · show ((O.lst xs).kid (.int i)).bind (fun y => y.at ks) = _
            rw [hk]; exact h3
          · rw [List.append_assoc]; exact h4
          · rw [List.append_assoc] at rr
            have r5 := h5 H' ((.r (.lst vs), .ref a) :: (((xs.map U.o).zip vs).eraseIdx j ++ M)) rr
            refine Rel.closeL (xs := xs.set j z) (vs := vs) (by rw [List.length_set]; exact hl) ?_
            have p2 := zperm2 (q := .o z) hA hw
            rw [← List.map_set] at p2
            exact r5.perm ((List.Perm.swap _ _ _).trans ((p2.append_right M).cons _).symm)
      | _ => cases hk
    | dic kvs =>
      have hk0 : (keyOf k).bind (fun k => lookO k kvs) = some y0 := hk
      obtain ⟨key, ek, e3⟩ := ob hk0
      have := keyD_of ek
      subst this
      have hp0 : (keyOf (keyD key)).bind (fun k => if kvs.length < most then some (O.dic (setO k z kvs)) else none) = some x2 := hp
      rw [keyOf_keyD] at hp0
      obtain ⟨_, rfl⟩ := oif hp0
      obtain ⟨a, ws, rfl, ha, nd, hl, r1⟩ := r.openK
      obtain ⟨j, hj, hset, hws⟩ := lookO_at e3
      obtain ⟨w0, hw, hv⟩ := hws ws hl
      have hA : (kvs.map fun p => U.o p.2)[j]? = some (.o y0) := by rw [List.getElem?_map, hj]; rfl
      have hw2 : (ws.map (·.2))[j]? = some w0 := by rw [List.getElem?_map, hw]; rfl
      have p1 := zperm hA hw2
      have r2 : Rel K fa H ((.o y0, w0) :: ((.r (.dK ws), .ref a) :: (((kvs.map fun p => U.o p.2).zip (ws.map (·.2))).eraseIdx j ++ L))) := r1.perm (((p1.append_right L).cons _).trans (.swap _ _ _))
      obtain ⟨y, y', w, P, h1, h2, h3, h4, h5⟩ := foc hu r2
      refine ⟨y, y', w, P ++ ((.r (.dK ws), .ref a) :: ((kvs.map fun p => U.o p.2).zip (ws.map (·.2))).eraseIdx j), h1, .dic ha hv h2, ?_, ?_, fun H' M rr => ?_⟩
      · show ((O.dic kvs).kid (keyD key)).bind (fun y => y.at ks) = _
        rw [hk]; exact h3
      · rw [List.append_assoc]; exact h4
      · rw [List.append_assoc] at rr
        have r5 := h5 H' ((.r (.dK ws), .ref a) :: (((kvs.map fun p => U.o p.2).zip (ws.map (·.2))).eraseIdx j ++ M)) rr
        rw [hset]
        have ek : (kvs.set j (key, z)).map (·.1) = kvs.map (·.1) := by
          rw [List.map_set]
          exact (List.ext_getElem? fun i => by
            by_cases qi : j = i
            · subst qi
              rw [set_get (x := key) (by rw [List.getElem?_map, hj]; rfl), List.getElem?_map, hj]; rfl
            · rw [List.getElem?_set_ne qi])
        refine Rel.closeK (xs := kvs.set j (key, z)) (vs := ws) (by rw [ek]; exact nd) (by rw [ek]; exact hl) ?_
        · have p2 := zperm2 (q := .o z) hA hw2
          rw [List.map_set]
          exact r5.perm ((List.Perm.swap _ _ _).trans ((p2.append_right M).cons _).symm)
    | dit kvs => cases k <;> cases hk
theorem ownV_same (g : Same H H') {D : Ban} {y : O} {w : V} {A : List Addr} (h : Ow K D H y w A) : Ow K D H' y w A := Ow.go (Go.same g) y w A (fun a _ o e => g a o e) h
end
def lP (S : Sur) (i : Nat) (c : CEs) : TE := fun σ H Q => ∃ T e x, S.fr H T e σ ∧ ownAt e i = some x ∧ out (evp S.F c e x) (fun p e1 => ∀ v0 w H1, σ[i]? = some (some v0) → PV H1 v0 p.1 w → (∃ D A, Ow S.K D H1 p.2 w A) → S.fr H1 T e1 σ → (qts c = true → Same H H1) → Q w H1) (xw S T σ)
theorem ownAt_get {e : Env} {i : Nat} {x : O} (h : ownAt e i = some x) : e[i]? = some (some (.o x)) := by
  unfold ownAt at h
  split at h
  · cases h; assumption
  · cases h
section
variable {X : Cx} {S : Sur} {H : Hp} {T : List (U × V)} {σ : L2.St} {e : Env} {i : Nat}
theorem own_slot {x : O} (f : S.fr H T e σ) (h : ownAt e i = some x) : ∃ v0 D A, σ[i]? = some (some v0) ∧ Ow S.K D H x v0 A := by
  obtain ⟨v0, hv, f1⟩ := f.pull (ownAt_get h) rfl
  obtain ⟨D, A, hu⟩ := f1.head
  exact ⟨v0, D, A, hv, hu⟩
theorem p_base {x : Str} {pos : Pos} (hN : X.N[i]? = some x) (hv : Vis X.env.scope x) (hd : (x == ("__debug__" : Str)) = false) (hcd : (x == ("__classdict__" : Str)) = false) : PE X (.Name x pos) (lP S i .nil) := imp_e (pe_var hN hv hd hcd) fun σ H Q ⟨T, e, y, f, ho, h⟩ => by
  rw [evp] at h
  obtain ⟨v0, D, A, hs, ow⟩ := own_slot f ho
  exact ⟨v0, hs, h v0 v0 H hs .nil ⟨D, A, ow⟩ f fun _ => Same.refl H⟩
theorem evp_cat {F : Nat → List U → Cr} : ∀ {a b : CEs} {e : Env} {x : O}, evp F (catE a b) e x = (evp F a e x).bd fun p e1 => (evp F b e1 p.2).bd fun q e2 => .ok (p.1 ++ q.1, q.2) e2
  | .nil, b, e, x => by
    rw [evp]
    show evp F b e x = (evp F b e x).bd fun q e2 => .ok ([] ++ q.1, q.2) e2
    cases evp F b e x <;> rfl
  | .cons c a, b, e, x => by
    show evp F (.cons c (catE a b)) e x = _
    rw [evp, evp]
    cases ev F c e with
    | ok u e1 =>
      cases u with
      | d k =>
        show (match x.kid k with
          | some y => (evp F (catE a b) e1 y).bd fun p e2 => .ok (k :: p.1, p.2) e2
          | none => .no) = Rs.bd (match x.kid k with
          | some y => (evp F a e1 y).bd fun p e2 => .ok (k :: p.1, p.2) e2
          | none => .no) _
        cases x.kid k with
        | some y =>
          show (evp F (catE a b) e1 y).bd _ = ((evp F a e1 y).bd _).bd _
          rw [evp_cat]
          cases evp F a e1 y with
          | ok p e2 =>
            show ((evp F b e2 p.2).bd _).bd _ = (evp F b e2 p.2).bd _
            cases evp F b e2 p.2 <;> rfl
          | ex y e2 => rfl
          | no => rfl
        | none => rfl
      | _ => rfl
    | ex y e1 => rfl
    | no => rfl
theorem qts_cat : ∀ {a b : CEs}, qts (catE a b) = (qts a && qts b)
  | .nil, b => by rw [qts]; rfl
  | .cons c a, b => by show qts (.cons c (catE a b)) = _; rw [qts, qts, qts_cat, Bool.and_assoc]
theorem p_step {a b : Expr} {pos : Pos} {cs : CEs} {c : CE} (hK : X.K = S.K) (hu : X.A.units + 1 < cLine) (ha : PE X a (lP S i cs)) (hb : PE X b (lE S c)) (hq : qt c = true) (hp : PlainIx b) : PE X (.Subscript a b pos) (lP S i (catE cs (.cons c .nil))) := imp_e (pe_ix (or_ix hu) ha hb hp) fun σ H Q ⟨T, e, y, f, ho, h⟩ => by
  rw [evp_cat] at h
  refine ⟨T, e, y, f, ho, out_mono (out_bd.mp h) (fun p e1 h1 v0 w H1 hs pv ⟨D, A, ow⟩ f1 s1 => ?_) fun _ _ z => z⟩
  have h1 := out_bd.mp h1
  rw [evp] at h1
  refine ⟨T, e1, f1, out_mono (out_bd.mp h1) (fun u e2 h2 kv H2 f2 s2 => ?_) fun _ _ z => z⟩
  split at h2
  · rename_i k
    split at h2
    · rename_i z hz
      rw [evp] at h2
      have h2 : ∀ v0 w H1, σ[i]? = some (some v0) → PV H1 v0 (p.1 ++ [k]) w → (∃ D A, Ow S.K D H1 z w A) → S.fr H1 T e2 σ → (qts (catE cs (.cons c .nil)) = true → Same H H1) → Q w H1 := h2
      have g2 := s2.sm hq
      obtain ⟨a', w', A', rfl, ow2, hc⟩ := (ownV_same g2 ow).kid hz
      have fin : ∀ w'' , PV H2 (.ref a') [k] w'' → w'' = w' → Q w'' H2 := fun w'' pv2 e' => by
        subst e'
        refine h2 v0 w'' H2 hs ((pv.same g2).snoc pv2) ⟨D, A', ow2⟩ f2.tail fun q => ?_
        rw [qts_cat] at q
        exact (s1 (qt2 q).1).trans g2
      rw [hK]
      rcases hc with ⟨j, vs, rfl, e1', e2'⟩ | ⟨key, ws, rfl, e1', e2'⟩
      · have := f2.dint
        subst this
        exact .inl ⟨a', vs, j, w', rfl, rfl, SqL.of e1', e2', fin w' (.lst e1' e2' .nil) rfl⟩
      · have ev : kv = kV key := by
          cases key with
          | inl j => exact f2.dint
          | inr j => exact f2.dstr
        subst ev
        refine .inr (.inr (.inr ⟨a', w', rfl, ?_, fin w' (.dic e1' e2' .nil) rfl⟩))
        rw [← e2']
        exact DGet.k e1'
    · exact h2.elim
  · exact h2.elim
/-! ### changes at a path -/
/-- what the change does, alone -/
def MuS (S : Sur) (r : V → List V → Hp → VK → Prop) (g : List U → O → Option (O × U)) : Prop := ∀ (H : Hp) (L : List (U × V)) (us : List U) (vs : List V) (x y : O) (u : U) (w : V) (Q : VK), us.length = vs.length → Rel S.K S.fa H ((.o x, w) :: (us.zip vs ++ L)) → g us x = some (y, u) →
  isB u = false ∧ ((∀ v H', Rel S.K S.fa H' ((u, v) :: (.o y, w) :: L) → Q v H') → r w vs H Q)
theorem upd_go {r : V → List V → Hp → VK → Prop} {g : List U → O → Option (O × U)} (ms : MuS S r g) {us : List U} {vs : List V} {x y : O} {u : U} {ks : List PyData} {v0 w : V} {Q : VK} (l : us.length = vs.length) (f : S.fr H (us.zip vs ++ T) e σ) (ho : ownAt e i = some x) (hs : σ[i]? = some (some v0)) (pv : PV H v0 ks w) (hu : x.upd (g us) ks = some (y, u))
    (k : ∀ v H1, S.fr H1 ((u, v) :: T) (e.set i (some (.o y))) σ → Q v H1) : r w vs H Q := by
  obtain ⟨v1, hv1, f1⟩ := f.pull (ownAt_get ho) rfl
  rw [hs] at hv1
  cases hv1
  have r1 : Rel S.K S.fa H ((.o x, v0) :: (us.zip vs ++ (T ++ fl (e.set i none) σ))) := by
    have := f1.rel
    rw [List.cons_append, List.append_assoc] at this
    exact this
  obtain ⟨y1, y2, w1, P, h1, h2, _, h4, h5⟩ := foc hu r1
  have := h2.det pv
  subst this
  have r2 : Rel S.K S.fa H ((.o y1, w1) :: (us.zip vs ++ (P ++ (T ++ fl (e.set i none) σ)))) := h4.perm (.cons _ (List.perm_append_comm_assoc _ _ _))
  obtain ⟨nb, go⟩ := ms H _ us vs y1 y2 u w1 Q l r2 h1
  refine go fun v H' r3 => ?_
  have r4 : Rel S.K S.fa H' ((.o y2, w1) :: (P ++ ((u, v) :: (T ++ fl (e.set i none) σ)))) := r3.perm ((List.Perm.swap _ _ _).trans (.cons _ List.perm_middle.symm))
  have r5 := h5 H' _ r4
  have f5 : S.fr H' ((.o y, v0) :: (u, v) :: T) (e.set i none) σ := ⟨r5, f1.len, f1.has, fun j z m => by
    rcases List.mem_cons.mp m with q | m
    · cases q
    · rcases List.mem_cons.mp m with q | m
      · cases q; cases nb
      · exact f1.bo j z (List.mem_cons_of_mem _ (List.mem_append_right _ m)), f1.pr⟩
  have f6 := f5.push (i := i) (set_get (ownAt_get ho)) hs
  rw [List.set_set] at f6
  exact k v H' f6
theorem mu_get {m : Mu} {r : V → List V → Hp → VK → Prop} {path cs : CEs} {Q : VK} (ms : MuS S r (muO m)) (h : lE S (.mu m i path cs) σ H Q) : tBM S.K "list" r (lP S i path) (lA S cs) σ H Q := by
  obtain ⟨T, e, f, h⟩ := h
  rw [ev] at h
  split at h
  · rename_i hq
    split at h
    · rename_i x hx
      refine ⟨T, e, x, f, hx, out_mono (out_eq (out_bd.mp h)) (fun p e1 ⟨he, h1⟩ v0 w H1 hs pv ⟨D, A, ow⟩ f1 s1 => ?_) fun _ _ z => z⟩
      split at h1
      · rename_i ys hy
        rw [hy] at ow
        refine ⟨?_, T, e1, f1, out_mono (out_bd.mp h1) (fun us e2 h2 vs H2 l f2 s2 => ?_) fun _ _ z => z⟩
        · unfold Ow at ow
          obtain ⟨a, vs, As, rfl, _, ha, _⟩ := ow
          exact .inl ⟨rfl, vs, SqL.of ha⟩
        · unfold updAt at h2
          split at h2
          · rename_i x2 hx2
            split at h2
            · rename_i y u hu
              have pv2 : PV H2 v0 p.1 w := by
                have : path.isNil = true ∨ (qts path && qts cs) = true := by simpa using hq
                rcases this with hn | hn
                · cases path with
                  | nil =>
                    rw [evp] at he
                    cases he
                    cases pv
                    exact .nil
                  | cons _ _ => cases hn
                · exact pv.same (s2.1 (qt2 hn).2)
              refine upd_go ms l f2 hx2 hs pv2 hu fun v H3 f3 => h2 v H3 f3 ⟨fun q => by simp [qt] at q, trivial⟩
            · exact h2.elim
          · exact h2.elim
      · exact h1.elim
    · exact h.elim
  · exact h.elim
end
end Fi
/-! Lists are changed. -/
namespace Fi
open PySem PySem.Spec PyProof.Rows L2
section
variable {K : PySem.W.Frag} {fa : Nat → Addr} {H H' : Hp} {S : Sur} {L : List (U × V)}
theorem kido_rel {u : U} {y : O} {v : V} (h : u.kido = some y) (r : Rel K fa H ((u, v) :: L)) : Rel K fa H ((.o y, v) :: L) := by
  cases u with
  | d x =>
    cases h
    obtain ⟨A, n, A1, A2, e, h1, h2⟩ := r
    refine ⟨A, n, A1, A2, e, ?_, h2⟩
    show Ow K _ H (.leaf x) v A1
    unfold Ow
    exact h1
  | o x => cases h; exact r
  | _ => cases h
theorem toU_rel {y : O} {v : V} (r : Rel K fa H ((.o y, v) :: L)) : Rel K fa H ((y.toU, v) :: L) := by
  cases y with
  | leaf x =>
    obtain ⟨A, n, A1, A2, e, h1, h2⟩ := r
    refine ⟨A, n, A1, A2, e, ?_, h2⟩
    have h1 : Ow K _ H (.leaf x) v A1 := h1
    unfold Ow at h1
    exact h1
  | _ => exact r
theorem most_le : most ≤ sizeLine := by have : most = 100000 := rfl; rw [PySem.sizeLine_eq]; omega
theorem eraseMap {α β : Type} {f : α → β} : ∀ {l : List α} {j : Nat}, (l.eraseIdx j).map f = (l.map f).eraseIdx j
  | [], j => by simp
  | x :: l, 0 => rfl
  | x :: l, j + 1 => congrArg (f x :: ·) (eraseMap (l := l) (j := j))
theorem dropL {α : Type} : ∀ {l : List α}, l.dropLast = l.eraseIdx (l.length - 1)
  | [] => rfl
  | [x] => rfl
  | x :: y :: l => by
    show x :: (y :: l).dropLast = x :: (y :: l).eraseIdx ((y :: l).length - 1)
    rw [dropL]
theorem toU_nb (y : O) : isB y.toU = false := by cases y <;> rfl
theorem zip_erase {A : List U} {vs : List V} {j : Nat} : (A.eraseIdx j).zip (vs.eraseIdx j) = (A.zip vs).eraseIdx j := by
  induction A generalizing vs j with
  | nil => simp
  | cons a A ih =>
    cases vs with
    | nil => simp
    | cons v vs =>
      cases j with
      | zero => rfl
      | succ j => exact congrArg ((a, v) :: ·) (ih (vs := vs) (j := j))
theorem ofn {α β : Type} {o : Option α} {f : α → β} {z : β} (h : o.map f = some z) : ∃ a, o = some a ∧ f a = z := Option.map_eq_some_iff.mp h
theorem mu_append : MuS S rAppend (muO .append) := fun H L us vs x y u w Q l r h => by
  have h : appU us x = some (y, u) := h
  unfold appU at h
  split at h
  · rename_i u0 xs _
    obtain ⟨y0, h1, h2⟩ := ob h
    obtain ⟨h3, he⟩ := oif h2
    cases he
    match vs, l with
    | [v0], _ =>
      have r : Rel S.K S.fa H ((.o (.lst xs), w) :: (u0, v0) :: L) := r
      refine ⟨rfl, fun k => ?_⟩
      obtain ⟨a, ws, rfl, ha, hl, r1⟩ := (kido_rel h1 (r.perm (.swap _ _ _))).perm (.swap _ _ _) |>.openL
      refine ⟨a, ws, v0, rfl, rfl, ha, by rw [hl]; exact Nat.lt_of_lt_of_le h3 most_le, k _ _ (Rel.non ?_)⟩
      have r2 := r1.put (o' := .lst (ws ++ [v0])) trivial
      refine Rel.closeL (vs := ws ++ [v0]) (by simp [hl]) (r2.perm (.cons _ ?_))
      rw [List.map_append, zipApp (by rw [List.length_map, hl]), List.append_assoc]
      exact .refl _
  · cases h
/-- an item is taken out -/
theorem take_out {xs : List O} {j : Nat} {y0 : O} {w : V} (hj : xs[j]? = some y0) (r : Rel S.K S.fa H ((.o (.lst xs), w) :: L)) : ∃ a ws z, w = .ref a ∧ H a = some (.lst ws) ∧ ws.length = xs.length ∧ ws[j]? = some z ∧ Rel S.K S.fa (upd H a (.lst (ws.eraseIdx j))) ((y0.toU, z) :: (.o (.lst (xs.eraseIdx j)), .ref a) :: L) := by
  obtain ⟨a, ws, rfl, ha, hl, r1⟩ := r.openL
  have hjl : j < ws.length := by rw [hl]; exact (List.getElem?_eq_some_iff.mp hj).1
  have hw : ws[j]? = some ws[j] := List.getElem?_eq_getElem hjl
  refine ⟨a, ws, ws[j], rfl, ha, hl, hw, toU_rel ?_⟩
  have r2 := r1.put (o' := .lst (ws.eraseIdx j)) trivial
  have hA : (xs.map U.o)[j]? = some (.o y0) := by rw [List.getElem?_map, hj]; rfl
  have p1 := zperm hA hw
  refine Rel.perm ?_ (.swap _ _ _)
  refine Rel.closeL (vs := ws.eraseIdx j) (by rw [List.length_eraseIdx, List.length_eraseIdx, hl]) (r2.perm (.cons _ ?_))
  rw [eraseMap, zip_erase]
  exact (p1.append_right L).trans List.perm_middle.symm
theorem mu_popAt : MuS S rPopAt (muO .popAt) := fun H L us vs x y u w Q l r h => by
  have h : popAtU us x = some (y, u) := h
  unfold popAtU at h
  split at h
  · rename_i i xs _
    split at h
    · rename_i hm
      obtain ⟨j, h1, h2⟩ := ob h
      obtain ⟨y0, h3, he⟩ := ofn h2
      cases he
      match vs, l with
      | [v0], _ =>
        have r : Rel S.K S.fa H ((.o (.lst xs), w) :: (.d (.int i), v0) :: L) := r
        refine ⟨toU_nb _, fun k => ?_⟩
        obtain ⟨D, hd⟩ := (r.perm (.swap _ _ _)).d
        unfold Dq at hd
        subst hd
        obtain ⟨q1, q2, q3, q4⟩ := ixN_seq h1
        obtain ⟨a, ws, z, rfl, ha, hl, hz, r2⟩ := take_out h3 (r.perm (.swap _ _ _)).tail
        have hm2 : (xs.length : Int) ≤ 100000 := by have : most = 100000 := rfl; omega
        refine ⟨a, ws, i, j, z, rfl, rfl, ha, by omega, by omega, by rw [hl]; exact q1, hz, k _ _ r2⟩
    · cases h
  · cases h
theorem mu_pop : MuS S rPop (muO .pop) := fun H L us vs x y u w Q l r h => by
  have h : popU us x = some (y, u) := h
  unfold popU at h
  split at h
  · rename_i xs _
    obtain ⟨y0, h3, he⟩ := ofn h
    cases he
    match vs, l with
    | [], _ =>
      have r : Rel S.K S.fa H ((.o (.lst xs), w) :: L) := r
      refine ⟨toU_nb _, fun k => ?_⟩
      obtain ⟨a, ws, z, rfl, ha, hl, hz, r2⟩ := take_out h3 r
      refine ⟨a, ws, z, rfl, rfl, ha, by rw [hl]; exact hz, ?_⟩
      have e1 : ws.dropLast = ws.eraseIdx (xs.length - 1) := by rw [← hl]; exact dropL
      rw [e1]
      exact k _ _ r2
  · cases h
theorem mu_insert : MuS S (fun x vs H Q => ∃ (l : Addr) (xs : List V) (i : Int) (y : V), x = .ref l ∧ vs = [.int i, y] ∧ H l = some (.lst xs) ∧ xs.length < sizeLine ∧ 0 ≤ i ∧ i < 2 ^ 63 ∧
    Q .non (upd H l (.lst (xs.take i.toNat ++ [y] ++ xs.drop i.toNat)))) (muO .insert) := fun H L us vs x y u w Q l r h => by
  have h : insU us x = some (y, u) := h
  unfold insU at h
  split at h
  · rename_i i u0 xs _
    obtain ⟨y0, h1, h2⟩ := ob h
    obtain ⟨⟨h3, h4, h5⟩, he⟩ := oif h2
    cases he
    match vs, l with
    | [vi, v0], _ =>
      have r : Rel S.K S.fa H ((.o (.lst xs), w) :: (.d (.int i), vi) :: (u0, v0) :: L) := r
      refine ⟨rfl, fun k => ?_⟩
      obtain ⟨D, hd⟩ := (r.perm (.swap _ _ _)).d
      unfold Dq at hd
      subst hd
      have r0 : Rel S.K S.fa H ((.o (.lst xs), w) :: (u0, v0) :: L) := (r.perm (.swap _ _ _)).tail
      obtain ⟨a, ws, rfl, ha, hl, r1⟩ := (kido_rel h1 (r0.perm (.swap _ _ _))).perm (.swap _ _ _) |>.openL
      have hm : most = 100000 := rfl
      refine ⟨a, ws, i, v0, rfl, rfl, ha, by rw [hl]; exact Nat.lt_of_lt_of_le h3 most_le, h4, by omega, k _ _ (Rel.non ?_)⟩
      have r2 := r1.put (o' := .lst (ws.take i.toNat ++ [v0] ++ ws.drop i.toNat)) trivial
      have hlen : (xs.take i.toNat).length = (ws.take i.toNat).length := by rw [List.length_take, List.length_take, hl]
      refine Rel.closeL (vs := ws.take i.toNat ++ [v0] ++ ws.drop i.toNat) (by simp [hl]) (r2.perm (.cons _ ?_))
      have e1 : ((xs.take i.toNat ++ y0 :: xs.drop i.toNat).map U.o).zip (ws.take i.toNat ++ [v0] ++ ws.drop i.toNat) = ((xs.take i.toNat).map U.o).zip (ws.take i.toNat) ++ ((.o y0, v0) :: ((xs.drop i.toNat).map U.o).zip (ws.drop i.toNat)) := by
        rw [List.map_append, List.append_assoc, zipApp (by rw [List.length_map]; exact hlen)]
        rfl
      have e2 : (xs.map U.o).zip ws = ((xs.take i.toNat).map U.o).zip (ws.take i.toNat) ++ ((xs.drop i.toNat).map U.o).zip (ws.drop i.toNat) := by
        rw [← zipApp (by rw [List.length_map]; exact hlen), ← List.map_append, List.take_append_drop, List.take_append_drop]
      rw [e1, e2]
      refine List.perm_middle.trans ?_
      rw [List.append_assoc, List.append_assoc]
      exact List.perm_middle.symm
  · cases h
theorem ent_o {ys : List PyData} {zs : List V} (r : Rel K fa H (ent ys zs ++ L)) : Rel K fa H (((ys.map O.leaf).map U.o).zip zs ++ L) := by
  induction ys generalizing zs L with
  | nil => exact r
  | cons y ys ih =>
    cases zs with
    | nil => exact r
    | cons z zs =>
      have r : Rel K fa H ((.d y, z) :: (ent ys zs ++ L)) := r
      have r2 := ih (L := (.d y, z) :: L) (r.perm List.perm_middle.symm)
      exact kido_rel (u := .d y) rfl (r2.perm List.perm_middle)
/-- a list's items beside -/
theorem lst_items {ys : List PyData} {v : V} (r : Rel K fa H ((.d (.list ys), v) :: L)) : ∃ b zs, v = .ref b ∧ H b = some (.lst zs) ∧ zs.length = ys.length ∧ Rel K fa H (((ys.map O.leaf).map U.o).zip zs ++ L) := by
  obtain ⟨A, n, A1, A2, rfl, ⟨e1, hd⟩, h2⟩ := r
  have e1 : A1 = [] := e1
  subst e1
  unfold Dq at hd
  obtain ⟨b, zs, rfl, _, hb, hl⟩ := hd
  exact ⟨b, zs, rfl, hb, hl.length, ent_o ⟨A2, n, RL.append.mpr ⟨[], A2, rfl, RL.ent hl, h2⟩⟩⟩
theorem mu_extend : MuS S rExtend (muO .extend) := fun H L us vs x y u w Q l r h => by
  have h : extU us x = some (y, u) := h
  unfold extU at h
  split at h
  · rename_i u0 xs _
    obtain ⟨ys, h1, h2⟩ := ob h
    obtain ⟨h3, he⟩ := oif h2
    cases he
    match vs, l with
    | [v0], _ =>
      have r : Rel S.K S.fa H ((u0, v0) :: (.o (.lst xs), w) :: L) := r.perm (.swap _ _ _)
      refine ⟨rfl, fun k => ?_⟩
      have r1 : Rel S.K S.fa H ((.d (.list ys), v0) :: (.o (.lst xs), w) :: L) := by
        unfold lv0 at h1
        split at h1
        · cases h1; exact r
        · cases h1; exact r.frz
        · cases h1
      obtain ⟨b, zs, rfl, hb, hz, r2⟩ := lst_items r1
      obtain ⟨a, ws, rfl, ha, hl, r3⟩ := (r2.perm List.perm_middle).openL
      refine ⟨a, b, ws, zs, rfl, rfl, ha, hb, by rw [hl, hz]; exact Nat.le_trans h3 most_le, k _ _ (Rel.non ?_)⟩
      have r4 := r3.put (o' := .lst (ws ++ zs)) trivial
      refine Rel.closeL (vs := ws ++ zs) (by simp [hl, hz]) (r4.perm (.cons _ ?_))
      rw [List.map_append, zipApp (by rw [List.length_map, hl]), List.append_assoc]
  · cases h
end
end Fi
/-! Method calls that change a list; comparisons of parts; dict displays. -/
namespace Fi
open PySem PySem.Spec PyProof.Rows L2
section
variable {X : Cx} {S : Sur} {H : Hp} {T : List (U × V)} {σ : L2.St} {o a b : Expr} {es : List Expr} {path cs : CEs} {cb : CE} {apos cpos pos : Pos} {id : String} {name : Str} {m : Mu} {i : Nat} {r : V → List V → Hp → VK → Prop}
theorem s_mu (hK : X.K = S.K) (ms : MuS S r (muO m)) (slot : Slot "list" name id) (hty : typeOf (.builtin id) = pure (.type "method_descriptor")) (hm : MtR X id r) (ho : PE X o (lP S i path)) (ha : PA X (a :: es) (lA S cs))
    (hbase : attributeBase o name X.env (eval o X.env) = eval o X.env)
    (hfew : ((backTo cpos (starEach (a :: es) X.env)).all (fun x => !x.1) && (backToKw cpos (keywordEach [] X.env)).all (fun x => x.1.isSome)
      && decide ((a :: es).length + ([] : List Keyword).length + (if ([] : List Keyword).isEmpty then 0 else 1) < 30)) = true)
    (hline : (apos.endLine == cpos.line) = true) (hs : starEach (a :: es) X.env = (false, eval a X.env) :: starEach es X.env) (hplain : (backTo cpos (starEach es X.env)).any (·.1) = false) : PE X (.Call (.Attribute o name apos) (a :: es) [] cpos) (lE S (.mu m i path cs)) :=
  imp_e (pe_bm PySem.F.plainAttrs_list slot hty hm ho ha hbase hfew hline hs hplain) fun _ _ _ h => by rw [hK]; exact mu_get ms h
theorem s_mu0 (hK : X.K = S.K) (ms : MuS S r (muO m)) (slot : Slot "list" name id) (hty : typeOf (.builtin id) = pure (.type "method_descriptor")) (hm : MtR X id r) (ho : PE X o (lP S i path))
    (hbase : attributeBase o name X.env (eval o X.env) = eval o X.env) (hline : (apos.endLine == cpos.line) = true) : PE X (.Call (.Attribute o name apos) [] [] cpos) (lE S (.mu m i path .nil)) :=
  imp_e (pe_bm0 PySem.F.plainAttrs_list slot hty hm ho hbase hline) fun σ H Q h => by
    rw [hK]
    obtain ⟨T, e, x, f, hx, h⟩ := mu_get ms h
    refine ⟨T, e, x, f, hx, out_mono h (fun p e1 h1 v0 w H1 hs pv ow f1 s1 => ?_) fun _ _ z => z⟩
    obtain ⟨t1, T2, e2, f2, h2⟩ := h1 v0 w H1 hs pv ow f1 s1
    rw [evs] at h2
    exact ⟨t1, h2 [] H1 rfl f2 ⟨fun _ => Same.refl _, trivial⟩⟩
/-- a part of an own tree against a value -/
theorem cmpP_get {neg : Bool} {Q : VK} (hq : qt cb = true) (h : lE S (.cmpP neg i path cb) σ H Q) : tOp (rEqQ S.K (if neg = true then neF else eqF)) (lP S i path) (lE S cb) σ H Q := by
  obtain ⟨T, e, f, h⟩ := h
  rw [ev] at h
  split at h
  · rename_i x hx
    refine ⟨T, e, x, f, hx, out_mono (out_bd.mp h) (fun p e1 h1 v0 w H1 hs pv ⟨D, A, ow⟩ f1 s1 => ?_) fun _ _ z => z⟩
    refine ⟨T, e1, f1, out_mono (out_bd.mp h1) (fun y e2 h2 w2 H2 f2 s2 => ?_) fun _ _ z => z⟩
    obtain ⟨z, ez, k⟩ := out_lift h2
    obtain ⟨d, hd, ez⟩ := ob ez
    obtain ⟨c, hc, rfl⟩ := ofn ez
    refine ⟨frz p.2, d, c, (ownV_same (s2.sm hq) ow).look, dvE f2 hd, ?_, k _ H2 f2.tail.bl ⟨fun q => by simp [qt] at q, trivial⟩⟩
    cases neg <;> exact hc
  · exact h.elim
theorem s_cmpP {neg : Bool} (hK : X.K = S.K) (hk : (X.K.lookup sysModules).isSome = true) (hu : X.A.units + 65 < cLine) (ho : PE X o (lP S i path)) (hb : PE X b (lE S cb)) (hq : qt cb = true) (hm : behindInMarks (if neg = true then .NotEq else .Eq) b = false) : PE X (.Compare o [if neg = true then .NotEq else .Eq] [b] pos) (lE S (.cmpP neg i path cb)) := by
  have hor : OpR X (compareOp (if neg = true then .NotEq else .Eq)) (rEqQ S.K (if neg = true then neF else eqF)) := by
    rw [← hK]
    cases neg
    · exact or_eq hk hu
    · exact or_ne hk hu
  exact imp_e (pe_cmpR hor ho hb hm) fun _ _ _ h => cmpP_get hq h
/-! ### displays -/
def trsOf (S : Sur) : CEs → List (TE × TE)
  | .cons k (.cons v r) => (lE S k, lE S v) :: trsOf S r
  | _ => []
def evenE : CEs → Bool
  | .nil => true
  | .cons _ (.cons _ r) => evenE r
  | _ => false
def flatP : List (V × V) → List V
  | [] => []
  | (x, y) :: r => x :: y :: flatP r
theorem tp_get : ∀ {ps : CEs} {T : List (U × V)} {e : Env} {H : Hp} {R : List (V × V) → Hp → Prop}, evenE ps = true → S.fr H T e σ → out (evs S.F ps e) (fun us e1 => ∀ prs H2, us.length = (flatP prs).length → S.fr H2 (us.zip (flatP prs) ++ T) e1 σ → R prs H2) (xw S T σ) →
    tPairs (trsOf S ps) σ H R
  | .nil, T, e, H, R, _, f, h => by
    rw [evs] at h
    exact h [] H rfl f
  | .cons _ .nil, _, _, _, _, hv, _, _ => by cases hv
  | .cons k (.cons v r), T, e, H, R, hv, f, h => by
    rw [evs] at h
    show lE S k σ H fun x H1 => lE S v σ H1 fun y H2 => tPairs (trsOf S r) σ H2 fun ps H3 => R ((x, y) :: ps) H3
    refine ⟨T, e, f, out_mono (out_bd.mp h) (fun u e1 h1 x H1 f1 s1 => ?_) fun _ _ z => z⟩
    rw [evs] at h1
    refine ⟨_, e1, f1, out_mono (out_bd.mp (out_bd.mp h1)) (fun w e2 h2 y H2 f2 s2 => ?_) xw_tail⟩
    have h3 := out_bd.mp h2
    refine tp_get (show evenE r = true from hv) f2 (out_mono h3 (fun us e3 h3 prs H3 l f3 => ?_) fun z e' q => xw_tail z e' (xw_tail z e' q))
    refine h3 ((x, y) :: prs) H3 ?_ (f3.perm ?_)
    · show us.length + 1 + 1 = (flatP prs).length + 1 + 1
      rw [l]
    · show (us.zip (flatP prs) ++ (w, y) :: (u, x) :: T).Perm ((u, x) :: (w, y) :: (us.zip (flatP prs) ++ T))
      exact List.perm_middle.trans ((List.perm_middle.cons _).trans (.swap _ _ _))
theorem noDup_nodup : ∀ {ks : List Key}, noDup ks = true → ks.Nodup
  | [], _ => List.nodup_nil
  | k :: r, h => by
    have h : (!(r.any fun j => decide (j = k)) && noDup r) = true := h
    obtain ⟨h1, h2⟩ := qt2 h
    refine List.nodup_cons.mpr ⟨fun z => ?_, noDup_nodup h2⟩
    have : r.any (fun j => decide (j = k)) = true := List.any_eq_true.mpr ⟨k, z, decide_eq_true rfl⟩
    rw [this] at h1
    cases h1
theorem mergeNoDup : ∀ {kvs acc : List (Key × V)}, noDup (kvs.map (·.1)) = true → (∀ p ∈ acc, ∀ q ∈ kvs, p.1 ≠ q.1) → mergeK acc kvs = acc ++ kvs
  | [], acc, _, _ => (List.append_nil acc).symm
  | (k, v) :: r, acc, h, d => by
    have h : (!((r.map (·.1)).any fun j => decide (j = k)) && noDup (r.map (·.1))) = true := h
    obtain ⟨h1, h2⟩ := qt2 h
    have e : putK acc k v = acc ++ [(k, v)] := by
      unfold putK
      rw [if_neg]
      intro z
      obtain ⟨p, hp, hk⟩ := List.any_eq_true.mp z
      exact d p hp (k, v) List.mem_cons_self (of_decide_eq_true hk)
    show mergeK (putK acc k v) r = _
    rw [e, mergeNoDup h2 ?_, List.append_assoc]
    · rfl
    · intro p hp q hq
      rcases List.mem_append.mp hp with hp | hp
      · exact d p hp q (List.mem_cons_of_mem _ hq)
      · have : p = (k, v) := by simpa using hp
        subst this
        intro ek
        have : (r.map (·.1)).any (fun j => decide (j = k)) = true := List.any_eq_true.mpr ⟨q.1, List.mem_map.mpr ⟨q, hq, rfl⟩, decide_eq_true ek.symm⟩
        rw [this] at h1
        cases h1
/-- the pairs that stand at hand -/
theorem dicU_rel {K : PySem.W.Frag} {fa : Nat → Addr} : ∀ {us : List U} {prs : List (V × V)} {kvs : List (Key × O)} {L : List (U × V)}, dicU us = some kvs → us.length = (flatP prs).length → Rel K fa H (us.zip (flatP prs) ++ L) →
    ∃ ws : List (Key × V), prs = ws.map (fun kv => (kV kv.1, kv.2)) ∧ ws.map (·.1) = kvs.map (·.1) ∧ Rel K fa H ((kvs.map fun p => U.o p.2).zip (ws.map (·.2)) ++ L)
  | [], prs, kvs, L, h, l, r => by
    cases h
    cases prs with
    | nil => exact ⟨[], rfl, rfl, r⟩
    | cons p _ => cases l
  | [u], prs, kvs, L, h, l, r => by cases u <;> cases h
  | u :: w :: us, [], kvs, L, h, l, r => by cases l
  | u :: w :: us, (x, y) :: prs, kvs, L, h, l, r => by
    cases u with
    | d k =>
      have h : (match keyOf k, w.kido, dicU us with
        | some k, some x, some kvs => some ((k, x) :: kvs)
        | _, _, _ => none) = some kvs := h
      split at h
      · rename_i key o kvs' e1 e2 e3
        cases h
        have r : Rel K fa H ((.d k, x) :: (w, y) :: (us.zip (flatP prs) ++ L)) := r
        obtain ⟨D, hd⟩ := r.d
        have ek := keyD_of e1
        subst ek
        have ex : x = kV key := by
          cases key with
          | inl i => unfold keyD Dq at hd; exact hd
          | inr i => unfold keyD Dq at hd; exact hd
        subst ex
        have r2 := kido_rel e2 r.tail
        have l : us.length + 1 + 1 = (flatP prs).length + 1 + 1 := l
        obtain ⟨ws, h1, h2, h3⟩ := dicU_rel (L := (.o o, y) :: L) e3 (by omega) (r2.perm List.perm_middle.symm)
        refine ⟨(key, y) :: ws, by rw [h1]; rfl, by rw [List.map_cons, List.map_cons, h2], ?_⟩
        exact h3.perm List.perm_middle
      · cases h
    | _ => cases h
theorem Rel.newR {K : PySem.W.Frag} {fa : Nat → Addr} {o : HO} {p : Addr} {L : List (U × V)} (r : Rel K fa H L) (hp : H p = none) (mu : Mut (some o)) : Rel K fa (upd H p o) ((.r o, .ref p) :: L) := by
  obtain ⟨A, n, hr⟩ := r
  have np : p ∉ A := fun z => (hr.at p z).1 hp
  have g : Go K (· ∈ A) (· ∈ p :: A) H (upd H p o) := Go.trans (Go.ban (D' := (· ∈ p :: A)) fun a ha z => by
    rcases List.mem_cons.mp z with rfl | z
    · exact absurd hp ha
    · exact z) (Go.same (same_new hp _))
  exact ⟨p :: A, List.nodup_cons.mpr ⟨np, n⟩, [p], A, rfl, ⟨p, rfl, rfl, upd_same, mu⟩, RL.go g (fun a ha o e => same_new hp _ a o e) hr⟩
theorem dic_get {ps : CEs} {Q : VK} (hv : evenE ps = true) (h : lE S (.dic ps) σ H Q) : tDisp (trsOf S ps) σ H Q := by
  obtain ⟨T, e, f, h⟩ := h
  rw [ev] at h
  intro p hp
  have f1 : S.fr (upd H p (.dK [])) ((.r (.dK []), .ref p) :: T) e σ := Frm.one (T1 := []) f (fun L r => r.newR hp trivial) rfl
  refine tp_get hv f1 (out_mono (out_bd.mp h) (fun us e1 h1 prs H2 l f2 => ?_) xw_tail)
  obtain ⟨z, ez, k⟩ := out_lift h1
  obtain ⟨kvs, h2, h3⟩ := ob ez
  obtain ⟨⟨h4, h5⟩, rfl⟩ := oif h3
  have f3 : S.fr H2 ((.r (.dK []), .ref p) :: (us.zip (flatP prs) ++ T)) e1 σ := f2.perm List.perm_middle
  have hp2 : H2 p = some (.dK []) := by
    obtain ⟨D, A, a, ea, _, ha, _⟩ := f3.head
    cases ea
    exact ha
  have r3 : Rel S.K S.fa H2 (us.zip (flatP prs) ++ ((.r (.dK []), .ref p) :: (T ++ fl e1 σ))) := by
    have := f3.rel
    rw [List.cons_append, List.append_assoc] at this
    exact this.perm List.perm_middle.symm
  obtain ⟨ws, rfl, h6, r4⟩ := dicU_rel h2 l r3
  have hl : ws.length = kvs.length := by simpa using congrArg List.length h6
  have hm : mergeK [] ws = ws := by
    rw [mergeNoDup (by rw [h6]; exact h4) (fun p hp => by cases hp)]
    rfl
  refine ⟨hp2, ws, rfl, by rw [hl]; exact h5, k _ _ ⟨?_, f3.len, f3.has, fun i w m => ?_, f3.pr⟩ ⟨fun q => by simp [qt] at q, trivial⟩⟩
  · rw [hm]
    have r5 := (r4.perm List.perm_middle).put (o' := .dK ws) trivial
    exact Rel.closeK (noDup_nodup h4) h6 r5
  · rcases List.mem_cons.mp m with q | m
    · cases q
    · exact f3.bo i w (List.mem_cons_of_mem _ (List.mem_append_right _ m))
/-- {k: v, ..} -/
theorem pps_of {ks : List (Option Expr)} {vs : List Expr} {ps : CEs} {k v : Expr} {ck cv : CE} (hk : PE X k (lE S ck)) (hv : PE X v (lE S cv)) (hr : PPs X pos ks vs (trsOf S ps)) : PPs X pos (some k :: ks) (v :: vs) (trsOf S (.cons ck (.cons cv ps))) := pps_cons hk hv hr
theorem s_dic {ks : List (Option Expr)} {vs : List Expr} {ps : CEs} (h : PPs X pos ks vs (trsOf S ps)) (hv : evenE ps = true) (hall : ks.all (·.isSome) = true) (hl : ks.length = vs.length) (h0 : ks ≠ []) (h15 : ks.length ≤ 15) : PE X (.Dict ks vs pos) (lE S (.dic ps)) :=
  imp_e (pe_disp h hall hl h0 h15) fun _ _ _ h => dic_get hv h
/-- {} -/
theorem s_dic0 : PE X (.Dict [] [] pos) (lE S (.dic .nil)) := imp_e pe_dnewK fun σ H Q ⟨T, e, f, h⟩ => by
  rw [ev, evs] at h
  intro p hp
  have f1 : S.fr (upd H p (.dK [])) ((.o (.dic []), .ref p) :: T) e σ := Frm.one (T1 := []) f (fun L r => Rel.closeK (xs := []) (vs := []) List.nodup_nil rfl (r.newR hp trivial)) rfl
  exact h _ _ f1 ⟨fun q => by simp [qt] at q, trivial⟩
end
end Fi
/-! Statements. -/
namespace Fi
open PySem PySem.Spec PyProof.Rows L2
/-- where a store goes -/
structure Pl where
  i : Nat
  path : CEs
  k : CE
mutual
inductive CS where
  | set (i : Nat) (e : CE)
  | tup (t : CT) (e : CE)
  | par (is : List Nat) (es : CEs)
  | st (p : Pl) (e : CE)
  | stt (ps : List Pl) (e : CE)
  | ex (e : CE)
  | ite (t : CE) (a b : CSs)
  | loop (t : CT) (it : CI) (b : CSs)
  | whl (t : CE) (b : CSs)
  | ret (e : CE)
  | retn
  | brk
  | cnt
  | pass
  | nvr
inductive CSs where
  | nil
  | cons (s : CS) (r : CSs)
end
/-- how statements end -/
inductive So where
  | nx (e : Env)
  | bk (e : Env)
  | ct (e : Env)
  | rt (u : U) (e : Env)
  | ex (x : Xn) (e : Env)
  | no
def Rs.so {α : Type} (r : Rs α) (f : α → Env → So) : So := match r with
  | .ok a e => f a e
  | .ex x e => .ex x e
  | .no => .no
def So.then_ (r : So) (f : Env → So) : So := match r with
  | .nx e => f e
  | r => r
/-- behind a turn -/
def So.turn (r : So) (f : Env → So) : So := match r with
  | .nx e => f e
  | .ct e => f e
  | .bk e => .nx e
  | r => r
def okU : U → Bool
  | .d _ => true
  | .o _ => true
  | .f _ => true
  | _ => false
def setU (i : Nat) (u : U) (e : Env) : So := if okU u = true then .nx (e.set i (some u)) else .no
def setUs : List Nat → List U → Env → Option Env
  | [], [], e => some e
  | i :: is, u :: us, e => if okU u = true then setUs is us (e.set i (some u)) else none
  | _, _, _ => none
/-- a store into an own tree -/
def stU : List U → O → Option (O × U)
  | [k, u], .lst xs => (match k with
    | .d (.int i) => u.kido.bind fun y => (ixN xs.length i).map fun j => (.lst (xs.set j y), .d .none)
    | _ => none)
  | [k, u], .dic kvs => (match k with
    | .d k => u.kido.bind fun y => (keyOf k).bind fun k => if kvs.length < most then some (.dic (setO k y kvs), .d .none) else none
    | _ => none)
  | _, _ => none
def stgo (F : Nat → List U → Cr) (p : Pl) (u : U) (e : Env) : Rs U := if (p.path.isNil || (qts p.path && qt p.k)) = true then
    match ownAt e p.i with
    | some x => (evp F p.path e x).bd fun q e1 => (ev F p.k e1).bd fun k e2 => updAt (stU [k, u]) e2 p.i q.1
    | none => .no
  else .no
def sttgo (F : Nat → List U → Cr) : List Pl → List PyData → Env → Rs Unit
  | [], [], e => .ok () e
  | p :: ps, d :: ds, e => (stgo F p (.d d) e).bd fun _ e1 => sttgo F ps ds e1
  | _, _, _ => .no
def floop (t : PyData → Env → Option Env) (b : Env → So) : List PyData → Env → So
  | [], e => .nx e
  | d :: ds, e => match t d e with
    | none => .no
    | some e1 => (b e1).turn fun e2 => floop t b ds e2
def wloop (t : Env → Rs U) (b : Env → So) : Nat → Env → So
  | 0, _ => .no
  | n + 1, e => (t e).so fun u e1 => match u with
    | .d (.bool true) => (b e1).turn fun e2 => wloop t b n e2
    | .d (.bool false) => .nx e1
    | _ => .no
def wfuel : Nat := 1000000
mutual
def exS (F : Nat → List U → Cr) : CS → Env → So
  | .set i c, e => (ev F c e).so fun u e1 => setU i u e1
  | .tup t c, e => (ev F c e).so fun u e1 => match u.dat with
    | some d => (match setT t d e1 with
      | some e2 => .nx e2
      | none => .no)
    | none => .no
  | .par is cs, e => (evs F cs e).so fun us e1 => match setUs is us e1 with
    | some e2 => .nx e2
    | none => .no
  | .st p c, e => (ev F c e).so fun u e1 => (stgo F p u e1).so fun _ e2 => .nx e2
  | .stt ps c, e => (ev F c e).so fun u e1 => match u with
    | .d (.tuple ds) => if ds.length = ps.length then (sttgo F ps ds e1).so fun _ e2 => .nx e2 else .no
    | _ => .no
  | .ex c, e => (ev F c e).so fun _ e1 => .nx e1
  | .ite t a b, e => (ev F t e).so fun u e1 => match u with
    | .d (.bool true) => exSs F a e1
    | .d (.bool false) => exSs F b e1
    | _ => .no
  | .loop t it b, e => (evi F it e).so fun xs e1 => floop (fun d e => setT t d e) (fun e => exSs F b e) xs e1
  | .whl t b, e => wloop (fun e => ev F t e) (fun e => exSs F b e) wfuel e
  | .ret c, e => (ev F c e).so fun u e1 => if okU u = true then .rt u e1 else .no
  | .retn, e => .rt (.d .none) e
  | .brk, e => .bk e
  | .cnt, e => .ct e
  | .pass, e => .nx e
  | .nvr, _ => .no
def exSs (F : Nat → List U → Cr) : CSs → Env → So
  | .nil, e => .nx e
  | .cons s r, e => (exS F s e).then_ fun e1 => exSs F r e1
end
/-! ### what is wanted behind -/
def sgo (S : Sur) (R : List (U × V)) (D : Ends) (r : So) : Prop := match r with
  | .nx e => ∀ σ H, S.fr H R e σ → D.nx σ H
  | .bk e => ∀ σ H, S.fr H R e σ → D.bk σ H
  | .ct e => ∀ σ H, S.fr H R e σ → D.ct σ H
  | .rt u e => ∀ v σ H, S.fr H ((u, v) :: R) e σ → D.rt v H
  | .ex x e => ∀ cls d σ H, XF S H x cls d R e σ → S.W cls d σ H
  | .no => False
def lS (S : Sur) (c : CS) : TS := fun D σ H => ∃ R e, noB R = R ∧ S.fr H R e σ ∧ sgo S R D (exS S.F c e)
def lSs (S : Sur) (c : CSs) : TS := fun D σ H => ∃ R e, noB R = R ∧ S.fr H R e σ ∧ sgo S R D (exSs S.F c e)
section
variable {X : Cx} {S : Sur} {H : Hp} {R T : List (U × V)} {σ : L2.St} {st : Stmt} {rest : List Stmt} {a b e : Expr} {ca cb : CE} {cs : CEs} {s : CS} {r : CSs} {pos : Pos} {D : Ends} {env : Env}
theorem imp_s {t t' : TS} (h : PS X st t) (k : ∀ D σ H, t' D σ H → t D σ H) : PS X st t' := ⟨fun pins s σ H D I h' => h.run pins s σ H D I (k D σ H h')⟩
theorem imp_ss {t t' : TS} (h : PSs X rest t) (k : ∀ D σ H, t' D σ H → t D σ H) : PSs X rest t' := ⟨fun pins s σ H D I h' => h.run pins s σ H D I (k D σ H h')⟩
theorem nbR (h : noB R = R) : ∀ (j : Nat) (w : V), (U.b j, w) ∉ R := fun j w m => by rw [← h] at m; exact noB_mem m
/-- an expression ahead -/
theorem so_out {α : Type} {rr : Rs α} {f : α → Env → So} (h : sgo S R D (rr.so f)) : out rr (fun a e1 => sgo S R D (f a e1)) (xw S R σ) := by
  cases rr with
  | ok a e1 => exact h
  | ex x e1 => exact fun cls d H k => h cls d σ H k
  | no => exact h
theorem ss_nil : PSs X [] (lSs S .nil) := imp_ss pss_nil fun D σ H ⟨R, e, nb, f, h⟩ => by
  rw [exSs] at h
  exact h σ H f
theorem sgo_then {r : So} {f : Env → So} {N : L2.St → Hp → Prop} (h : sgo S R D (r.then_ f)) (k : ∀ e1, sgo S R D (f e1) → ∀ σ H, S.fr H R e1 σ → N σ H) : sgo S R { D with nx := N } r := by
  cases r with
  | nx e1 => exact fun σ H f1 => k e1 h σ H f1
  | bk e1 => exact h
  | ct e1 => exact h
  | rt u e1 => exact h
  | ex x e1 => exact h
  | no => exact h
theorem ss_cons (h1 : PS X st (lS S s)) (h2 : PSs X rest (lSs S r)) : PSs X (st :: rest) (lSs S (.cons s r)) := imp_ss (pss_cons h1 h2) fun D σ H ⟨R, e, nb, f, h⟩ => by
  rw [exSs] at h
  exact ⟨R, e, nb, f, sgo_then h fun e1 h1 σ' H' f' => ⟨R, e1, nb, f', h1⟩⟩
theorem s_pass : PS X (.Pass pos) (lS S .pass) := imp_s ps_pass fun D σ H ⟨R, e, nb, f, h⟩ => by
  rw [exS] at h
  exact h σ H f
theorem s_brk : PS X (.Break pos) (lS S .brk) := imp_s ps_break fun D σ H ⟨R, e, nb, f, h⟩ => by
  rw [exS] at h
  exact h σ H f
theorem s_cnt : PS X (.Continue pos) (lS S .cnt) := imp_s ps_continue fun D σ H ⟨R, e, nb, f, h⟩ => by
  rw [exS] at h
  exact h σ H f
theorem s_nvr : PS X st (lS S .nvr) := imp_s ps_never fun D σ H ⟨R, e, nb, f, h⟩ => by
  rw [exS] at h
  exact h
theorem s_expr (ha : PE X a (lE S ca)) (hs : swapsWith a none pos.line X.env = pure false) : PS X (.Expr a pos) (lS S (.ex ca)) := imp_s (ps_expr ha hs) fun D σ H ⟨R, e, nb, f, h⟩ => by
  rw [exS] at h
  exact ⟨R, e, f, out_mono (so_out h) (fun u e1 h1 v H1 f1 s1 => h1 σ H1 f1.tail) fun _ _ z => z⟩
theorem okU_nb {u : U} (h : okU u = true) : isB u = false := by cases u <;> first | rfl | cases h
theorem s_ret (ha : PE X a (lE S ca)) : PS X (.Return (some a) pos) (lS S (.ret ca)) := imp_s (ps_ret ha) fun D σ H ⟨R, e, nb, f, h⟩ => by
  rw [exS] at h
  refine ⟨R, e, f, out_mono (so_out h) (fun u e1 h1 v H1 f1 s1 => ?_) fun _ _ z => z⟩
  split at h1
  · exact h1 v σ H1 f1
  · exact h1.elim
theorem s_retn : PS X (.Return none pos) (lS S .retn) := imp_s ps_retN fun D σ H ⟨R, e, nb, f, h⟩ => by
  rw [exS] at h
  exact h .non σ H f.non
theorem s_set {tg : Expr} {i : Nat} {te : TE} (h : PS X st (tAsg te (gName i))) (hi : ∀ σ H Q, lE S ca σ H Q → te σ H Q) (hp : ∀ p ∈ S.pv, p.1 ≠ i) : PS X st (lS S (.set i ca)) := imp_s h fun D σ H ⟨R, e, nb, f, h⟩ => by
  rw [exS] at h
  refine hi σ H _ ⟨R, e, f, out_mono (so_out h) (fun u e1 h1 v H1 f1 s1 => ?_) fun _ _ z => z⟩
  unfold setU at h1
  split at h1
  · rename_i ho
    exact h1 _ _ (f1.setS (nbR nb) hp (okU_nb ho))
  · exact h1.elim
theorem dat_of {u : U} {v : V} {d : PyData} {e : Env} (f : S.fr H ((u, v) :: T) e σ) (h : u.dat = some d) : S.fr H ((.d d, v) :: T) e σ := by
  cases u with
  | d x => cases h; exact f
  | o x => cases h; exact f.frz
  | _ => cases h
theorem s_tupS {tg : Expr} {t : CT} (h : PS X st (tAsg (lE S ca) (lG S t))) (hp : ∀ i ∈ t.is, ∀ p ∈ S.pv, p.1 ≠ i) : PS X st (lS S (.tup t ca)) := imp_s h fun D σ H ⟨R, e, nb, f, h⟩ => by
  rw [exS] at h
  refine ⟨R, e, f, out_mono (so_out h) (fun u e1 h1 v H1 f1 s1 => ?_) fun _ _ z => z⟩
  split at h1
  · rename_i d hd
    split at h1
    · rename_i e2 h2
      exact ⟨R, e1, d, dat_of f1 hd, nbR nb, hp, e2, h2, fun σ' f' _ => h1 σ' H1 f'⟩
    · exact h1.elim
  · exact h1.elim
theorem s_if {c : Expr} {x y : List Stmt} {cx cy : CSs} (hc : PT X c (lT S ca)) (hx : PSs X x (lSs S cx)) (hy : PSs X y (lSs S cy)) : PS X (.If c x y pos) (lS S (.ite ca cx cy)) := imp_s (ps_if hc hx hy) fun D σ H ⟨R, e, nb, f, h⟩ => by
  rw [exS] at h
  refine ⟨R, e, f, out_mono (so_out h) (fun u e1 h1 => ?_) fun _ _ z => z⟩
  split at h1
  · exact ⟨true, rfl, fun H1 f1 s1 => iteT ⟨R, e1, nb, f1, h1⟩⟩
  · exact ⟨false, rfl, fun H1 f1 s1 => iteF ⟨R, e1, nb, f1, h1⟩⟩
  · exact h1.elim
end
end Fi
/-! Loops, stores. -/
namespace Fi
open PySem PySem.Spec PyProof.Rows L2
section
variable {X : Cx} {S : Sur} {H : Hp} {R T T1 : List (U × V)} {σ : L2.St} {st : Stmt} {rest : List Stmt} {a b e o : Expr} {ca cb : CE} {cs : CEs} {s : CS} {r : CSs} {pos : Pos} {D : Ends} {env : Env}
theorem sgo_turn {r : So} {f : Env → So} {N : L2.St → Hp → Prop} (h : sgo S R D (r.turn f)) (k : ∀ e1, sgo S R D (f e1) → ∀ σ H, S.fr H (T1 ++ R) e1 σ → N σ H) : sgo S (T1 ++ R) { D with nx := N, ct := N, bk := D.nx } r := by
  cases r with
  | nx e1 => exact fun σ H f1 => k e1 h σ H f1
  | bk e1 => exact fun σ H f1 => h σ H f1.drop
  | ct e1 => exact fun σ H f1 => k e1 h σ H f1
  | rt u e1 => exact fun v σ H f1 => h v σ H (by
      have : S.fr H (T1 ++ ((u, v) :: R)) e1 σ := f1.perm List.perm_middle.symm
      exact this.drop)
  | ex x e1 => exact fun cls d σ H k => h cls d σ H (k.map fun {u v} g => by
      have : S.fr H (T1 ++ ((u, v) :: R)) e1 σ := g.perm List.perm_middle.symm
      exact this.drop)
  | no => exact h
theorem s_whl {c : Expr} {body : List Stmt} (hp : PassesOwn (model X.prog X.w) X.A X.env X.xe) (hc : PT X c (lT S ca)) (hb : PSs X body (lSs S r)) : PS X (.While c body [] pos) (lS S (.whl ca r)) := imp_s (ps_while hp hc hb) fun D σ H ⟨R, e, nb, f, h⟩ => by
  rw [exS] at h
  refine ⟨fun m σ H => ∃ e, S.fr H R e σ ∧ sgo S R D (wloop (fun e => ev S.F ca e) (fun e => exSs S.F r e) m e), ⟨wfuel, e, f, h⟩, fun m σ H ⟨e, f, h⟩ => ?_⟩
  cases m with
  | zero => exact h.elim
  | succ m =>
    unfold wloop at h
    refine ⟨R, e, f, out_mono (so_out h) (fun u e1 h1 => ?_) fun _ _ z => z⟩
    split at h1
    · exact ⟨true, rfl, fun H1 f1 s1 => iteT ⟨fun σ H => ∃ e, S.fr H R e σ ∧ sgo S R D (wloop (fun e => ev S.F ca e) (fun e => exSs S.F r e) m e), fun σ' H' q => ⟨m, Nat.lt_succ_self m, q⟩, R, e1, nb, f1, sgo_turn (T1 := []) h1 fun e2 h2 σ' H' f' => ⟨e2, f', h2⟩⟩⟩
    · exact ⟨false, rfl, fun H1 f1 s1 => iteF (h1 σ H1 f1)⟩
    · exact h1.elim
theorem s_for {tg iter : Expr} {body : List Stmt} {t : CT} {it : CI} (hp : PassesOwn (model X.prog X.w) X.A X.env X.xe) (hc : X.calm = true) (hi : PI X tg iter (lI S it)) (hg : PG X tg (lG S t)) (hb : PSs X body (lSs S r)) (hs : ∀ x, foldedSetIterable iter X.env x = pure x) (ht : ∀ i ∈ t.is, ∀ p ∈ S.pv, p.1 ≠ i) : PS X (.For tg iter body [] pos) (lS S (.loop t it r)) := imp_s (ps_for hp hc hi hg hb hs) fun D σ H ⟨R, e, nb, f, h⟩ => by
  rw [exS] at h
  refine ⟨R, e, f, out_mono (so_out h) (fun xs e1 h1 J H1 T1 its f1 => ?_) fun _ _ z => z⟩
  have nb1 : noB (T1 ++ R) = T1 ++ R := by
    have : noB T1 = T1 := List.filter_eq_self.mpr fun p hp => by
      obtain ⟨u, w⟩ := p
      cases u with
      | b j => exact absurd hp (its.nb j w)
      | _ => rfl
    have e2 : noB (T1 ++ R) = noB T1 ++ noB R := List.filter_append ..
    rw [e2, this, nb]
  let W : Nat → Nat → L2.St → Hp → Prop := fun i m σ H => m = xs.length - i ∧ ∃ e, S.fr H (T1 ++ R) e σ ∧ sgo S R D (floop (fun d e => setT t d e) (fun e => exSs S.F r e) (xs.drop i) e)
  refine ⟨W, ⟨xs.length, rfl, e1, f1, h1⟩, fun i m σ' H' ⟨em, e', f', ho⟩ => ?_⟩
  by_cases hi : i < xs.length
  · refine .inr ⟨its.go (W := S.W) f' hi, fun σ2 H2 => ∃ m', m' < m ∧ W (i + 1) m' σ2 H2, fun _ _ q => q, fun v H2 hy => ?_⟩
    obtain ⟨d, ed, f2⟩ := its.yl f' hi hy
    have e3 : xs.drop i = d :: xs.drop (i + 1) := by
      rw [List.getElem?_eq_getElem hi] at ed
      rw [← Option.some.inj ed]
      exact List.drop_eq_getElem_cons hi
    rw [e3] at ho
    unfold floop at ho
    split at ho
    · exact ho.elim
    · rename_i e4 h4
      refine ⟨T1 ++ R, e', d, f2, nbR nb1, ht, e4, h4, fun σ3 f3 _ => ⟨T1 ++ R, e4, nb1, f3, ?_⟩⟩
      exact sgo_turn ho fun e5 h5 σ5 H5 f5 => ⟨xs.length - (i + 1), by omega, rfl, e5, f5, h5⟩
  · refine .inl ⟨its.st f' (by omega), ?_⟩
    rw [List.drop_of_length_le (by omega)] at ho
    unfold floop at ho
    exact ho σ' H' f'.drop
/-! ### two or three names at once -/
theorem par2 {i j : Nat} {us : List U} {vs : List V} {e e2 : Env} (nb : noB R = R) (hi : ∀ p ∈ S.pv, p.1 ≠ i) (hj : ∀ p ∈ S.pv, p.1 ≠ j) (l : us.length = vs.length) (f : S.fr H (us.zip vs ++ R) e σ) (h : setUs [i, j] us e = some e2) : ∃ v w, vs = [v, w] ∧ S.fr H R e2 ((σ.set i (some v)).set j (some w)) := by
  rcases us with _ | ⟨u, _ | ⟨w, _ | ⟨y, r⟩⟩⟩
  · cases h
  · unfold setUs at h
    split at h
    · unfold setUs at h; cases h
    · cases h
  · match vs, l with
    | [v1, v2], _ =>
      have f : S.fr H ((u, v1) :: (w, v2) :: R) e σ := f
      unfold setUs at h
      split at h
      · rename_i h1
        unfold setUs at h
        split at h
        · rename_i h2
          unfold setUs at h
          cases h
          refine ⟨v1, v2, rfl, ?_⟩
          have nb2 : ∀ j z, (U.b j, z) ∉ (w, v2) :: R := fun j z m => by
            rcases List.mem_cons.mp m with q | q
            · cases q; cases h2
            · exact nbR nb j z q
          exact (f.setS nb2 hi (okU_nb h1)).setS (nbR nb) hj (okU_nb h2)
        · cases h
      · cases h
  · unfold setUs at h
    split at h
    · unfold setUs at h
      split at h
      · unfold setUs at h; cases h
      · cases h
    · cases h
theorem s_par2 {i j : Nat} (h : PS X st (tPar i j (lA S cs))) (hi : ∀ p ∈ S.pv, p.1 ≠ i) (hj : ∀ p ∈ S.pv, p.1 ≠ j) : PS X st (lS S (.par [i, j] cs)) := imp_s h fun D σ H ⟨R, e, nb, f, h⟩ => by
  rw [exS] at h
  refine ⟨R, e, f, out_mono (so_out h) (fun us e1 h1 vs H1 l f1 s1 => ?_) fun _ _ z => z⟩
  split at h1
  · rename_i e2 h2
    obtain ⟨v, w, ev, f2⟩ := par2 nb hi hj l f1 h2
    exact ⟨v, w, ev, h1 _ _ f2⟩
  · exact h1.elim
theorem s_par3 {i j k : Nat} (h : PS X st (tPar3 i j k (lA S cs))) (hi : ∀ p ∈ S.pv, p.1 ≠ i) (hj : ∀ p ∈ S.pv, p.1 ≠ j) (hk : ∀ p ∈ S.pv, p.1 ≠ k) : PS X st (lS S (.par [i, j, k] cs)) := imp_s h fun D σ H ⟨R, e, nb, f, h⟩ => by
  rw [exS] at h
  refine ⟨R, e, f, out_mono (so_out h) (fun us e1 h1 vs H1 l f1 s1 => ?_) fun _ _ z => z⟩
  split at h1
  · rename_i e2 h2
    rcases us with _ | ⟨u, us⟩
    · cases h2
    · rcases vs with _ | ⟨v, vs⟩
      · cases l
      · have h2 : (if okU u = true then setUs [j, k] us (e1.set i (some u)) else none) = some e2 := h2
        split at h2
        · rename_i ho
          have hall : ∀ x ∈ us, isB x = false := by
            rcases us with _ | ⟨x, _ | ⟨y, us⟩⟩
            · intro x hx; cases hx
            · unfold setUs at h2
              split at h2
              · unfold setUs at h2; cases h2
              · cases h2
            · unfold setUs at h2
              split at h2
              · rename_i hx
                unfold setUs at h2
                split at h2
                · rename_i hy
                  rcases us with _ | ⟨z, us⟩
                  · intro z hz
                    rcases List.mem_cons.mp hz with rfl | hz
                    · exact okU_nb hx
                    · rcases List.mem_cons.mp hz with rfl | hz
                      · exact okU_nb hy
                      · cases hz
                  · unfold setUs at h2; cases h2
                · cases h2
              · cases h2
          have nb2 : ∀ q z, (U.b q, z) ∉ us.zip vs ++ R := fun q z m => by
            rcases List.mem_append.mp m with m | m
            · have := hall _ (List.of_mem_zip m).1
              cases this
            · exact nbR nb q z m
          have f1' : S.fr H1 ((u, v) :: (us.zip vs ++ R)) e1 σ := f1
          obtain ⟨v2, v3, ev, f3⟩ := par2 nb hj hk (by simpa using l) (f1'.setS nb2 hi (okU_nb ho)) h2
          subst ev
          exact ⟨v, v2, v3, rfl, h1 _ _ f3⟩
        · cases h2
  · exact h1.elim
end
end Fi
/-! Stores into own trees. -/
namespace Fi
open PySem PySem.Spec PyProof.Rows L2
def rSetA : TSet := fun o i v H Q => rSetL o i v H Q ∨ ∃ a H', o = .ref a ∧ DPut H a i v H' ∧ Q H'
theorem pset_any {X : Cx} (hu : X.A.units + 1 < cLine) : PSet X rSetA := fun pins s σ H o i v ov iv u Q I ro ri rv h => by
  rcases h with h | ⟨a, H', rfl, g, q⟩
  · exact set_list pins s σ H o i v ov iv u Q I ro ri rv h
  · cases ro
    exact d_setItem hu I g ri rv fun s' I' => ⟨H', I', q⟩
def rSt : V → List V → Hp → VK → Prop := fun w vs H Q => ∃ kv v, vs = [kv, v] ∧ rSetA w kv v H (fun H' => Q .non H')
section
variable {X : Cx} {S : Sur} {H : Hp} {R T L : List (U × V)} {σ : L2.St} {st : Stmt} {a b e o : Expr} {ca : CE} {pos : Pos} {env : Env}
theorem set_keys {α : Type} {kvs : List (Key × α)} {j : Nat} {key : Key} {x y : α} (hj : kvs[j]? = some (key, x)) : (kvs.set j (key, y)).map (·.1) = kvs.map (·.1) := by
  rw [List.map_set]
  exact List.ext_getElem? fun i => by
    by_cases qi : j = i
    · subst qi
      rw [set_get (x := key) (by rw [List.getElem?_map, hj]; rfl), List.getElem?_map, hj]; rfl
    · rw [List.getElem?_set_ne qi]
theorem putK_at {key : Key} {v w : V} : ∀ {ws : List (Key × V)} {j : Nat}, (ws.map (·.1)).Nodup → ws[j]? = some (key, w) → putK ws key v = ws.set j (key, v) := fun {ws j} nd hj => by
  have hany : (ws.any fun kv => decide (kv.1 = key)) = true := List.any_eq_true.mpr ⟨(key, w), List.mem_of_getElem? hj, decide_eq_true rfl⟩
  unfold putK
  rw [if_pos hany]
  clear hany
  induction ws generalizing j with
  | nil => simp at hj
  | cons p ws ih =>
    obtain ⟨k1, x⟩ := p
    have nd : (k1 :: ws.map (·.1)).Nodup := nd
    obtain ⟨n1, n2⟩ := List.nodup_cons.mp nd
    cases j with
    | zero =>
      have e : some (k1, x) = some (key, w) := by simpa using hj
      cases e
      show (if key = key then (key, v) else (key, w)) :: ws.map (fun kv => if kv.1 = key then (kv.1, v) else kv) = (key, v) :: ws
      rw [if_pos rfl]
      congr 1
      refine (List.map_congr_left fun p hp => ?_).trans (List.map_id ws)
      rw [if_neg]
      · rfl
      · intro e
        exact n1 (List.mem_map.mpr ⟨p, hp, e⟩)
    | succ j =>
      have hj : ws[j]? = some (key, w) := by simpa using hj
      have : k1 ≠ key := by
        rintro rfl
        exact n1 (List.mem_map.mpr ⟨_, List.mem_of_getElem? hj, rfl⟩)
      show (if k1 = key then (k1, v) else (k1, x)) :: ws.map (fun kv => if kv.1 = key then (kv.1, v) else kv) = (k1, x) :: ws.set j (key, v)
      rw [if_neg this, ih n2 hj]
theorem lookO_none {key : Key} : ∀ {kvs : List (Key × O)}, lookO key kvs = none → key ∉ kvs.map (·.1)
  | [], _ => by simp
  | (k1, x) :: kvs, h => by
    have h : (if k1 = key then some x else lookO key kvs) = none := h
    split at h
    · cases h
    · rename_i q
      intro z
      rcases List.mem_cons.mp z with z | z
      · exact q z.symm
      · exact lookO_none h z
theorem setO_new {key : Key} {y : O} : ∀ {kvs : List (Key × O)}, lookO key kvs = none → setO key y kvs = kvs ++ [(key, y)]
  | [], _ => rfl
  | (k1, x) :: kvs, h => by
    have h : (if k1 = key then some x else lookO key kvs) = none := h
    split at h
    · cases h
    · rename_i q
      unfold setO
      rw [if_neg q, setO_new h]
      rfl
theorem mu_st : MuS S rSt stU := fun H L us vs x y u w Q l r h => by
  unfold stU at h
  split at h
  · rename_i k u0 xs
    split at h
    · rename_i i
      obtain ⟨y0, h1, h2⟩ := ob h
      obtain ⟨j, h3, he⟩ := ofn h2
      cases he
      match vs, l with
      | [vi, v0], _ =>
        have r : Rel S.K S.fa H ((.o (.lst xs), w) :: (.d (.int i), vi) :: (u0, v0) :: L) := r
        refine ⟨rfl, fun kk => ?_⟩
        obtain ⟨D, hd⟩ := (r.perm (.swap _ _ _)).d
        unfold Dq at hd
        subst hd
        have r0 : Rel S.K S.fa H ((.o (.lst xs), w) :: (u0, v0) :: L) := (r.perm (.swap _ _ _)).tail
        obtain ⟨a, ws, rfl, ha, hl, r1⟩ := (kido_rel h1 (r0.perm (.swap _ _ _))).perm (.swap _ _ _) |>.openL
        obtain ⟨q1, q2, q3, q4⟩ := ixN_seq h3
        refine ⟨_, _, rfl, .inl ⟨a, ws, i, j, rfl, rfl, ha, by rw [hl]; exact h3, kk _ _ (Rel.non ?_)⟩⟩
        have r2 := r1.put (o' := .lst (ws.set j v0)) trivial
        refine Rel.closeL (vs := ws.set j v0) (by simp [hl]) ?_
        have hjw : j < ws.length := by rw [hl]; exact q2
        have hA : (xs.map U.o)[j]? = some (.o (xs[j]'q2)) := by rw [List.getElem?_map, List.getElem?_eq_getElem q2]; rfl
        have hw : ws[j]? = some ws[j] := List.getElem?_eq_getElem hjw
        have p1 := zperm hA hw
        -- the old item goes, the new one comes
        have r3 : Rel S.K S.fa (upd H a (.lst (ws.set j v0))) ((.r (.lst (ws.set j v0)), .ref a) :: ((.o y0, v0) :: (((xs.map U.o).zip ws).eraseIdx j ++ L))) := by
          have r5 : Rel S.K S.fa (upd H a (.lst (ws.set j v0))) ((.o (xs[j]'q2), ws[j]) :: ((.r (.lst (ws.set j v0)), .ref a) :: (.o y0, v0) :: (((xs.map U.o).zip ws).eraseIdx j ++ L))) := by
            refine r2.perm ?_
            refine (List.Perm.cons _ (p1.append_right _)).trans ((List.Perm.swap _ _ _).trans (.cons _ (.cons _ ?_)))
            exact List.perm_middle
          exact r5.tail
        refine r3.perm (.cons _ ?_)
        have hA2 : ((xs.set j y0).map U.o)[j]? = some (.o y0) := by rw [List.map_set]; exact List.getElem?_set_self (by simpa using q2)
        have hw2 : (ws.set j v0)[j]? = some v0 := List.getElem?_set_self hjw
        have p2 := zperm hA2 hw2
        have e2 : (((xs.set j y0).map U.o).zip (ws.set j v0)).eraseIdx j = ((xs.map U.o).zip ws).eraseIdx j := by
          rw [← zip_erase, ← zip_erase, List.map_set]
          congr 1
          · exact List.eraseIdx_set_eq
          · exact List.eraseIdx_set_eq
        rw [e2] at p2
        exact (p2.append_right L).symm
    · cases h
  · rename_i k u0 kvs
    split at h
    · rename_i k
      obtain ⟨y0, h1, h2⟩ := ob h
      obtain ⟨key, h3, h4⟩ := ob h2
      obtain ⟨h5, he⟩ := oif h4
      cases he
      match vs, l with
      | [vi, v0], _ =>
        have r : Rel S.K S.fa H ((.o (.dic kvs), w) :: (.d k, vi) :: (u0, v0) :: L) := r
        refine ⟨rfl, fun kk => ?_⟩
        obtain ⟨D, hd⟩ := (r.perm (.swap _ _ _)).d
        have ek := keyD_of h3
        subst ek
        have ev : vi = kV key := by
          cases key with
          | inl j => unfold keyD Dq at hd; exact hd
          | inr j => unfold keyD Dq at hd; exact hd
        subst ev
        have r0 : Rel S.K S.fa H ((.o (.dic kvs), w) :: (u0, v0) :: L) := (r.perm (.swap _ _ _)).tail
        obtain ⟨a, ws, rfl, ha, nd, hm, r1⟩ := (kido_rel h1 (r0.perm (.swap _ _ _))).perm (.swap _ _ _) |>.openK
        have hl : ws.length = kvs.length := by simpa using congrArg List.length hm
        refine ⟨_, _, rfl, .inr ⟨a, _, rfl, .inl ⟨ws, key, ha, rfl, by rw [hl]; exact Nat.lt_of_lt_of_le h5 most_le, rfl⟩, kk _ _ (Rel.non ?_)⟩⟩
        have r2 := r1.put (o' := .dK (putK ws key v0)) trivial
        cases hk : lookO key kvs with
        | some old =>
          obtain ⟨j, hj, hset, hws⟩ := lookO_at hk
          obtain ⟨w0, hw, hv⟩ := hws ws hm
          have hp : putK ws key v0 = ws.set j (key, v0) := putK_at (by rw [hm]; exact nd) hw
          rw [hset]
          have ek : (kvs.set j (key, y0)).map (·.1) = kvs.map (·.1) := set_keys hj
          refine Rel.closeK (xs := kvs.set j (key, y0)) (vs := putK ws key v0) (by rw [ek]; exact nd) (by rw [ek, hp, set_keys hw, hm]) ?_
          have hA : (kvs.map fun p => U.o p.2)[j]? = some (.o old) := by rw [List.getElem?_map, hj]; rfl
          have hw2 : (ws.map (·.2))[j]? = some w0 := by rw [List.getElem?_map, hw]; rfl
          have p1 := zperm hA hw2
          have r5 : Rel S.K S.fa (upd H a (.dK (putK ws key v0))) ((.o old, w0) :: ((.r (.dK (putK ws key v0)), .ref a) :: (.o y0, v0) :: (((kvs.map fun p => U.o p.2).zip (ws.map (·.2))).eraseIdx j ++ L))) := by
            refine r2.perm ?_
            refine (List.Perm.cons _ (p1.append_right _)).trans ((List.Perm.swap _ _ _).trans (.cons _ (.cons _ ?_)))
            exact List.perm_middle
          refine r5.tail.perm (.cons _ ?_)
          have hA2 : ((kvs.set j (key, y0)).map fun p => U.o p.2)[j]? = some (.o y0) := by rw [List.map_set]; exact set_get hA
          have hw3 : ((putK ws key v0).map (·.2))[j]? = some v0 := by rw [hp, List.map_set]; exact set_get hw2
          have p2 := zperm hA2 hw3
          have e2 : (((kvs.set j (key, y0)).map fun p => U.o p.2).zip ((putK ws key v0).map (·.2))).eraseIdx j = ((kvs.map fun p => U.o p.2).zip (ws.map (·.2))).eraseIdx j := by
            rw [← zip_erase, ← zip_erase, hp, List.map_set, List.map_set]
            congr 1
            · exact List.eraseIdx_set_eq
            · exact List.eraseIdx_set_eq
          rw [e2] at p2
          exact (p2.append_right L).symm
        | none =>
          have hn := lookO_none hk
          have hs : setO key y0 kvs = kvs ++ [(key, y0)] := setO_new hk
          have hp : putK ws key v0 = ws ++ [(key, v0)] := by
            unfold putK
            rw [if_neg]
            intro z
            obtain ⟨p, hp, hk2⟩ := List.any_eq_true.mp z
            have : p.1 ∈ kvs.map (·.1) := by rw [← hm]; exact List.mem_map.mpr ⟨p, hp, rfl⟩
            rw [of_decide_eq_true hk2] at this
            exact hn this
          rw [hs]
          refine Rel.closeK (xs := kvs ++ [(key, y0)]) (vs := putK ws key v0) ?_ (by rw [hp]; simp [hm]) (r2.perm (.cons _ ?_))
          · rw [List.map_append]
            exact List.nodup_append.mpr ⟨nd, by simp, fun x hx y hy => by
              have : y = key := by simpa using hy
              subst this
              intro e
              subst e
              exact hn hx⟩
          · rw [hp, List.map_append, List.map_append, zipApp (by rw [List.length_map, List.length_map, hl]), List.append_assoc]
            exact .refl _
    · cases h
  · cases h
/-- a store as a target -/
def lGst (S : Sur) (p : Pl) : TG := fun v σ H Q => ∃ T e u, S.fr H ((u, v) :: T) e σ ∧ out (stgo S.F p u e) (fun _ e1 => ∀ H1, S.fr H1 T e1 σ → Q σ H1) (xw S T σ)
theorem rSetA_mono {o i v : V} {H : Hp} {Q Q' : Hp → Prop} (h : rSetA o i v H Q) (k : ∀ H, Q H → Q' H) : rSetA o i v H Q' := by
  rcases h with ⟨p, xs, j, n, e1, e2, e3, e4, q⟩ | ⟨a, H', e, g, q⟩
  · exact .inl ⟨p, xs, j, n, e1, e2, e3, e4, k _ q⟩
  · exact .inr ⟨a, H', e, g, k _ q⟩
theorem gst_get {p : Pl} {v : V} {Q : L2.St → Hp → Prop} (h : lGst S p v σ H Q) : gSub (lP S p.i p.path) (lE S p.k) rSetA v σ H Q := by
  obtain ⟨T, e, u, f, h⟩ := h
  unfold stgo at h
  split at h
  · rename_i hq
    split at h
    · rename_i x hx
      refine ⟨(u, v) :: T, e, x, f, hx, out_mono (out_eq (out_bd.mp h)) (fun q e1 ⟨he, h1⟩ v0 w H1 hs pv ow f1 s1 => ?_) xw_tail⟩
      refine ⟨(u, v) :: T, e1, f1, out_mono (out_bd.mp h1) (fun k e2 h2 kv H2 f2 s2 => ?_) xw_tail⟩
      unfold updAt at h2
      split at h2
      · rename_i x2 hx2
        split at h2
        · rename_i y u2 hu
          have pv2 : PV H2 v0 q.1 w := by
            have : p.path.isNil = true ∨ (qts p.path && qt p.k) = true := by simpa using hq
            rcases this with hn | hn
            · cases hp : p.path with
              | nil =>
                rw [hp, evp] at he
                cases he
                cases pv
                exact .nil
              | cons _ _ => rw [hp] at hn; cases hn
            · exact pv.same (s2.sm (qt2 hn).2)
          obtain ⟨kv', v', ev, hset⟩ := upd_go (us := [k, u]) (vs := [kv, v]) (Q := fun _ H3 => Q σ H3) mu_st rfl f2 hx2 hs pv2 hu fun r H3 f3 => h2 H3 f3.tail
          cases ev
          exact hset
        · exact h2.elim
      · exact h2.elim
    · exact h.elim
  · exact h.elim
theorem g_st {p : Pl} {o i : Expr} (h : PG X (.Subscript o i pos) (gSub (lP S p.i p.path) (lE S p.k) rSetA)) : PG X (.Subscript o i pos) (lGst S p) := imp_g h fun _ _ _ _ h => gst_get h
theorem s_st {p : Pl} {tg : Expr} (h : PS X st (tAsg (lE S ca) (lGst S p))) : PS X st (lS S (.st p ca)) := imp_s h fun D σ H ⟨R, e, nb, f, h⟩ => by
  rw [exS] at h
  refine ⟨R, e, f, out_mono (so_out h) (fun u e1 h1 v H1 f1 s1 => ?_) fun _ _ z => z⟩
  exact ⟨R, e1, u, f1, out_mono (so_out h1) (fun _ e2 h2 H2 f2 => h2 σ H2 f2) fun _ _ z => z⟩
/-- several stores -/
def lGsts (S : Sur) (ps : List Pl) : TGs := fun ws σ H Q => ∃ T e xs, ws.length = xs.length ∧ S.fr H (ent xs ws ++ T) e σ ∧ out (sttgo S.F ps xs e) (fun _ e1 => ∀ H1, S.fr H1 T e1 σ → Q σ H1) (xw S T σ)
theorem gs_nil : PGs X [] (lGsts S []) := imp_gs pgs_nil fun v σ H Q ⟨T, e, xs, l, f, h⟩ => by
  cases xs with
  | nil => exact ⟨by simpa using l, h H f⟩
  | cons x xs => exact h.elim
theorem gs_cons {tg : Expr} {es : List Expr} {p : Pl} {ps : List Pl} (h1 : PG X tg (lGst S p)) (h2 : PGs X es (lGsts S ps)) (hs : (assignEach (tg :: es) X.env).map (·.2) = assign tg X.env :: (assignEach es X.env).map (·.2)) : PGs X (tg :: es) (lGsts S (p :: ps)) := imp_gs (pgs_cons h1 h2 hs) fun v σ H Q ⟨T, e, xs, l, f, h⟩ => by
  cases xs with
  | nil => exact h.elim
  | cons x xs =>
    cases v with
    | nil => cases l
    | cons w ws =>
      have h : out ((stgo S.F p (.d x) e).bd fun _ e1 => sttgo S.F ps xs e1) (fun _ e1 => ∀ H1, S.fr H1 T e1 σ → Q σ H1) (xw S T σ) := h
      refine ⟨w, ws, rfl, ent xs ws ++ T, e, .d x, f, out_mono (out_bd.mp h) (fun _ e1 h1 H1 f1 => ⟨T, e1, xs, by simpa using l, f1, h1⟩) fun z e' q => ?_⟩
      intro cls d H1 k
      exact q cls d H1 (k.map fun {u v} g => by
        have : S.fr H1 (ent xs ws ++ ((u, v) :: T)) e' σ := g.perm List.perm_middle.symm
        exact this.drop)
def lGtt (S : Sur) (ps : List Pl) : TG := fun v σ H Q => ∃ T e ds, ds.length = ps.length ∧ S.fr H ((.d (.tuple ds), v) :: T) e σ ∧ out (sttgo S.F ps ds e) (fun _ e1 => ∀ H1, S.fr H1 T e1 σ → Q σ H1) (xw S T σ)
theorem g_stt {es : List Expr} {k : Nat} {ps : List Pl} (hK : X.K = S.K) (hc : X.calm = true) (h : PGs X es (lGsts S ps)) (hn : (assignEach es X.env).length = ps.length) (hst : (assignEach es X.env).findIdx? (·.1) = none) : PG X (.Tuple es k pos) (lGtt S ps) := imp_g (pg_tup hc h hn hst) fun v σ H Q ⟨T, e, ds, hl, f, h⟩ => by
  obtain ⟨a, vs, rfl, ha, l, g⟩ := tvE f
  rw [hK]
  exact ⟨a, vs, rfl, ha, by rw [l, hl], T, e, ds, l, g, h⟩
theorem s_stt {ps : List Pl} (h : PS X st (tAsg (lE S ca) (lGtt S ps))) : PS X st (lS S (.stt ps ca)) := imp_s h fun D σ H ⟨R, e, nb, f, h⟩ => by
  rw [exS] at h
  refine ⟨R, e, f, out_mono (so_out h) (fun u e1 h1 v H1 f1 s1 => ?_) fun _ _ z => z⟩
  split at h1
  · split at h1
    · rename_i hl
      exact ⟨R, e1, _, hl, f1, out_mono (so_out h1) (fun _ e2 h2 H2 f2 => h2 σ H2 f2) fun _ _ z => z⟩
    · exact h1.elim
  · exact h1.elim
end
end Fi
/-! Tests; names that are softly looked at. -/
namespace Fi
open PySem PySem.Spec PyProof.Rows L2
section
variable {X : Cx} {S : Sur} {H : Hp} {T : List (U × V)} {σ : L2.St} {a b e : Expr} {es rest : List Expr} {ca cb cc : CE} {pos : Pos}
theorem s_nve : PE X a (lE S .nve) := ⟨fun pins s σ H Q I ⟨T, e, f, h⟩ => by rw [ev] at h; exact h.elim⟩
theorem s_soft {i : Nat} {x : Str} (hN : X.N[i]? = some x) (hv : Vis X.env.scope x) (hd : (x == ("__debug__" : Str)) = false) (hcd : (x == ("__classdict__" : Str)) = false) : PE X (.Name x pos) (lE S (.soft i)) := by
  refine ⟨fun pins s σ H Q I ⟨T, e, f, h⟩ => ?_⟩
  have viaV : out (ev S.F (.var i) e) (fun u e1 => ∀ v H1, S.fr H1 ((u, v) :: T) e1 σ → Sid (.soft i) σ H v H1 → Q v H1) (xw S T σ) → lE S (.var i) σ H Q := fun h => ⟨T, e, f, out_mono h (fun u e1 h1 v H1 f1 s1 => h1 v H1 f1 ⟨s1.sm, trivial⟩) fun _ _ z => z⟩
  have viaB : out (ev S.F (.pv i) e) (fun u e1 => ∀ v H1, S.fr H1 ((u, v) :: T) e1 σ → Sid (.soft i) σ H v H1 → Q v H1) (xw S T σ) → lE S (.pv i) σ H Q := fun h => ⟨T, e, f, out_mono h (fun u e1 h1 v H1 f1 s1 => h1 v H1 f1 ⟨s1.sm, trivial⟩) fun _ _ z => z⟩
  have goV := (s_var (S := S) (pos := pos) hN hv hd hcd).run pins s σ H Q I
  have goB := (s_pv (S := S) (pos := pos) hN hv hd hcd).run pins s σ H Q I
  rw [ev] at h
  split at h
  · rename_i x hx
    exact goV (viaV (by rw [ev]; simp only [hx]; exact h))
  · rename_i x hx
    split at h
    · split at h
      · exact goB (viaB (by rw [ev]; simp only [hx]; exact h))
      · exact goV (viaV (by rw [ev]; simp only [hx]; exact h))
    · exact goV (viaV (by rw [ev]; simp only [hx]; exact h))
  · rename_i k hx
    exact goV (viaV (by rw [ev]; simp only [hx]; exact h))
  · rename_i k hx
    exact goV (viaV (by rw [ev]; simp only [hx]; exact h))
  · exact h.elim
/-- a test as a value -/
theorem lT_lE {c : CE} {Q : Bool → Hp → Prop} (hm : ∀ v, mvf c σ v) (h : lT S c σ H Q) : lE S c σ H (fun x H' => ∃ k, x = .bl k ∧ Q k H') := by
  obtain ⟨T, e, f, h⟩ := h
  refine ⟨T, e, f, out_mono h (fun x e1 ⟨b, eb, h1⟩ v H1 f1 s1 => ?_) fun _ _ z => z⟩
  subst eb
  exact ⟨b, f1.dbl, h1 H1 f1.tail s1.sm⟩
theorem t_cmp {op : CmpOp} {cop : Cop} {rr : R2} (ho : OpR X (compareOp op) rr) (hs : OpS S rr (cmpU cop)) (ha : PE X a (lE S ca)) (hb : PE X b (lE S cb)) (hm : behindInMarks op b = false) : PT X (.Compare a [op] [b] pos) (lT S (.cmp cop ca cb)) :=
  imp_t (pt_cmpR ho ha hb hm) fun _ _ _ h => op_get (c := .cmp cop ca cb) hs (fun _ => True.intro) (fun e => by rw [ev]) (fun q => qt2 (by rw [qt] at q; exact q)) (lT_lE (fun _ => trivial) h)
theorem t_cmpP {path : CEs} {i : Nat} {neg : Bool} (hK : X.K = S.K) (hk : (X.K.lookup sysModules).isSome = true) (hu : X.A.units + 65 < cLine) (ho : PE X a (lP S i path)) (hb : PE X b (lE S cb)) (hq : qt cb = true) (hm : behindInMarks (if neg = true then .NotEq else .Eq) b = false) : PT X (.Compare a [if neg = true then .NotEq else .Eq] [b] pos) (lT S (.cmpP neg i path cb)) := by
  have hor : OpR X (compareOp (if neg = true then .NotEq else .Eq)) (rEqQ S.K (if neg = true then neF else eqF)) := by
    rw [← hK]
    cases neg
    · exact or_eq hk hu
    · exact or_ne hk hu
  exact imp_t (pt_cmpR hor ho hb hm) fun _ _ _ h => cmpP_get hq (lT_lE (fun _ => trivial) h)
theorem t_an (ha : PT X a (lT S ca)) (hb : PW X (.BoolOp .And (b :: rest) pos) (lT S cb)) : PW X (.BoolOp .And (a :: b :: rest) pos) (lT S (.an ca cb)) := by
  refine ⟨fun wh pins s σ H Q I h => (pw_and ha hb).run wh pins s σ H Q I ?_⟩
  obtain ⟨T, e, f, h⟩ := h
  rw [ev] at h
  refine ⟨T, e, f, out_mono (out_bd.mp h) (fun x e1 h1 => ?_) fun _ _ z => z⟩
  split at h1
  · exact ⟨true, rfl, fun H1 f1 s1 => iteT ⟨T, e1, f1, out_mono h1 (fun u e2 ⟨c, ec, h2⟩ => ⟨c, ec, fun H2 f2 s2 => h2 H2 f2 fun q => by
      rw [qt] at q
      exact (s1 (qt2 q).1).trans (s2 (qt2 q).2)⟩) fun _ _ z => z⟩⟩
  · obtain ⟨c, ec, h2⟩ := h1
    cases ec
    exact ⟨false, rfl, fun H1 f1 s1 => iteF (h2 H1 f1 fun q => s1 (by rw [qt] at q; exact (qt2 q).1))⟩
  · exact h1.elim
theorem t_or (ha : PT X a (lT S ca)) (hb : PW X (.BoolOp .Or (b :: rest) pos) (lT S cb)) : PW X (.BoolOp .Or (a :: b :: rest) pos) (lT S (.orr ca cb)) := by
  refine ⟨fun wh pins s σ H Q I h => (pw_or ha hb).run wh pins s σ H Q I ?_⟩
  obtain ⟨T, e, f, h⟩ := h
  rw [ev] at h
  refine ⟨T, e, f, out_mono (out_bd.mp h) (fun x e1 h1 => ?_) fun _ _ z => z⟩
  split at h1
  · obtain ⟨c, ec, h2⟩ := h1
    cases ec
    exact ⟨true, rfl, fun H1 f1 s1 => iteT (h2 H1 f1 fun q => s1 (by rw [qt] at q; exact (qt2 q).1))⟩
  · exact ⟨false, rfl, fun H1 f1 s1 => iteF ⟨T, e1, f1, out_mono h1 (fun u e2 ⟨c, ec, h2⟩ => ⟨c, ec, fun H2 f2 s2 => h2 H2 f2 fun q => by
      rw [qt] at q
      exact (s1 (qt2 q).1).trans (s2 (qt2 q).2)⟩) fun _ _ z => z⟩⟩
  · exact h1.elim
theorem s_one {op} (h : PE X a (lE S ca)) : PE X (.BoolOp op [a] pos) (lE S ca) := pe_one h
/-- a chain as a test -/
theorem t_of_pe {tc : TE} {c : CE} (h : PT X e (tTest tc)) (k : ∀ {σ : L2.St} {H : Hp} {Q : VK}, lE S c σ H Q → tc σ H Q) (hm : ∀ σ v, mvf c σ v) : PT X e (lT S c) := imp_t h fun σ H Q h => k (lT_lE (hm σ) h)
end
end Fi
/-! len(set(x)) of a tuple of ints. -/
namespace Fi
open PySem PySem.Spec PyProof.Rows L2
theorem dupB_mem {x : Int} : ∀ {l : List Int}, x ∈ dupB l ↔ x ∈ l
  | [] => Iff.rfl
  | y :: r => by
    unfold dupB
    split
    · rename_i h
      rw [dupB_mem, List.mem_cons]
      exact ⟨fun z => .inr z, fun z => z.elim (fun e => by rw [e]; exact dupB_mem.mp h) id⟩
    · rw [List.mem_cons, List.mem_cons, dupB_mem]
theorem dupB_nodup : ∀ {l : List Int}, (dupB l).Nodup
  | [] => List.nodup_nil
  | y :: r => by
    unfold dupB
    split
    · exact dupB_nodup
    · rename_i h
      exact List.nodup_cons.mpr ⟨h, dupB_nodup⟩
def tLenSetT (K : PySem.W.Frag) (ta : TE) : TE := fun σ H Q => ta σ H fun x H1 => ∃ (l : Addr) (ns : List Int), x = .ref l ∧ SqT K H1 l (ns.map V.int) ∧ ns.length < 4000 ∧ Q (.int ((dupB ns).length : Nat)) H1
theorem pe_lenSetT {X : Cx} {a : Expr} {ta : TE} {p p2 q pos : Pos} (hg : Gl X "len") (hm : X.mg "len" = none) (hg2 : Gl X "set") (hm2 : X.mg "set" = none) (ha : PE X a ta) (hc : X.calm = true)
    (na : starEach [a] X.env = (false, eval a X.env) :: starEach [] X.env) : PE X (.Call (.Name "len" p) [.Call (.Name "set" p2) [a] [] q] [] pos) (tLenSetT X.K ta) := by
  refine ⟨fun pins s σ H Q I h => ?_⟩
  refine Call_ (ld_blt I hg hm boot_len (PyProof.Rows.callWith_builtin1 (PyProof.Rows.args_cons ?_ rfl) rfl rfl))
  refine Call_ (ld_blt I hg2 hm2 boot_set (PyProof.Rows.callWith_type1 (PyProof.Rows.args_cons (thn (ha.run pins s σ H _ I h) fun v s1 h1 => PyProof.Rows.args_nil ?_) na) na rfl))
  obtain ⟨x, H1, I1, r1, l, ns, rfl, hq, hl, q1⟩ := h1
  cases r1
  obtain ⟨its, r, pl, hz⟩ := I1.tuple hq
  refine call_set_tupI ns (I1.ok.hd hc) (show s1.heap.IsTuple l its.toArray from pl) (ints_of_vals r) (by unfold scanBound; omega) fun h' tk c R1 hcn kp => PyProof.Rows.args_nil ?_
  obtain ⟨o, es, ep, t, ho, hex, hd, g, nd, hmem, hb, hf, hn, _⟩ := R1
  have hlen : es.size = (dupB ns).length := by
    have hp : (es.toList.map L2.keyOf).Perm (dupB ns) := (List.perm_ext_iff_of_nodup nd dupB_nodup).mpr fun k => by
      rw [← hmem k, dupB_mem]
      exact ⟨fun z => of_decide_eq_true z, fun z => decide_eq_true z⟩
    have := hp.length_eq
    simpa using this
  have I2 : Inv X pins σ H1 { s1 with heap := h', toks := tk } := I1.kept fun b o e => kp b o e
  have hsm : es.size ≤ ns.length := by rw [hn]; exact hcn
  exact call_len_set ho hex hd hf (by omega) ⟨.int (dupB ns).length, H1, I2.tok _, ⟨_, by rw [hlen]⟩, q1⟩
theorem s_lenset {X : Cx} {S : Sur} {a : Expr} {ca : CE} {p p2 q pos : Pos} (hK : X.K = S.K) (hg : Gl X "len") (hm : X.mg "len" = none) (hg2 : Gl X "set") (hm2 : X.mg "set" = none) (ha : PE X a (lE S ca)) (hc : X.calm = true)
    (na : starEach [a] X.env = (false, eval a X.env) :: starEach [] X.env) : PE X (.Call (.Name "len" p) [.Call (.Name "set" p2) [a] [] q] [] pos) (lE S (.bi .lenset (.cons ca .nil))) := imp_e (pe_lenSetT hg hm hg2 hm2 ha hc na) fun σ H Q ⟨T, e, f, h⟩ => by
  rw [ev, evs] at h
  refine ⟨T, e, f, out_mono (out_bd.mp (out_bd.mp h)) (fun x e1 h1 v H1 f1 s1 => ?_) fun _ _ z => z⟩
  rw [evs] at h1
  obtain ⟨z, ez, k⟩ := out_lift (show out (lift (biU .lenset e1 [x]) e1) _ _ from h1)
  have ez : bi1 .lenset e1 x = some z := ez
  unfold bi1 at ez
  simp only at ez
  split at ez
  · obtain ⟨is, h2, h3⟩ := Option.bind_eq_some_iff.mp ez
    split at h3
    · rename_i hl
      cases h3
      obtain ⟨l, ws, rfl, hs, d⟩ := tvD (f1.dup trivial)
      obtain ⟨D, dq⟩ := d.dq
      have := dqL_allI dq h2
      subst this
      rw [hK]
      exact ⟨l, is, rfl, hs, hl, k _ H1 f1.tail.int ⟨fun qq => s1.sm (by
        rw [qt, qts, qts] at qq
        exact (qt2 qq).1), trivial⟩⟩
    · cases h3
  · cases ez
end Fi
/-! From the program's text to the core: surroundings, names, operators. -/
namespace Fi
open PySem PySem.Spec PyProof.Rows L2
structure Tb where
  /-- defs: for each parameter whether an own tree is moved in -/
  fns : List (Str × List Bool)
  cst : List (Str × PyData)
  /-- calls with keywords: the def, how many by place, the names, the order -/
  kws : List (Nat × Nat × List Str × List Nat)
  /-- dicts of the module with text keys -/
  dct : List (Str × List (Str × PyData)) := []
def freeN : List Str := ["isinstance", "int", "bool", "str", "tuple", "list", "dict", "set", "len", "all", "any", "sum", "max", "min", "repr", "range", "zip", "enumerate", "sorted"]
/-- a dict of the module -/
def DctK (K : PySem.W.Frag) (w : World) (K2 : PySem.W.Frag) (p : Addr) (kvs : List (Str × PyData)) : Prop := ∃ es n, KDict K w p es n ∧ ∀ z, (match lookC kvs z with
  | some d => ∃ u v, PySem.W.nsIn K p z = some (some u) ∧ RelV v u ∧ ∀ D H, Dq K2 D H d v
  | none => PySem.W.nsIn K p z = some none)
inductive Md where
  | keep | look | move | soft | test | late
  deriving DecidableEq
/-- where an expression stands -/
structure At (X : Cx) (S : Sur) (tb : Tb) (lvl : Nat) (N : List Str) (sc : Scope) : Prop where
  n : X.N = N
  nd : N.Nodup
  sc : X.env.scope = sc
  K : X.K = S.K
  calm : X.calm = true
  gd : X.A.guards = some []
  rm : Room lvl X.A
  hi : 60 ≤ lvl
  tk : Takes X S.W
  sys : (X.K.lookup sysModules).isSome = true
  fn : ∀ g x fl, tb.fns[g]? = some (x, fl) → X.mg x = some (.ref (S.fa g)) ∧ Kept X S lvl g fl.length
  ar : ∀ g us, S.F g us ≠ .no → ∃ x fl, tb.fns[g]? = some (x, fl) ∧ us.length = fl.length
  cst : ∀ x d, (x, d) ∈ tb.cst → ∃ u v, X.mg x = some u ∧ RelV v u ∧ ∀ D H, Dq S.K D H d v
  kw : ∀ g m ks pm, (g, m, ks, pm) ∈ tb.kws → ∃ x fl, tb.fns[g]? = some (x, fl) ∧ KwCall X S lvl g fl.length m ks pm
  fre : ∀ x ∈ freeN, X.mg x = none
  dct : ∀ x kvs, (x, kvs) ∈ tb.dct → ∃ p, X.mg x = some (.ref p) ∧ DctK X.K X.w S.K p kvs
def idx : List Str → Str → Option Nat
  | [], _ => none
  | y :: r, x => if y = x then some 0 else (idx r x).map (· + 1)
theorem idx_ok : ∀ {l : List Str} {x : Str} {i : Nat}, idx l x = some i → l[i]? = some x
  | [], _, _, h => by cases h
  | y :: r, x, i, h => by
    unfold idx at h
    split at h
    · rename_i e; cases h; rw [e]; rfl
    · cases q : idx r x with
      | none => rw [q] at h; cases h
      | some j =>
        rw [q] at h
        cases h
        have := idx_ok q
        simpa using this
def fnIx : List (Str × List Bool) → Str → Option Nat
  | [], _ => none
  | p :: r, x => if p.1 = x then some 0 else (fnIx r x).map (· + 1)
theorem fnIx_ok : ∀ {l : List (Str × List Bool)} {x : Str} {i : Nat}, fnIx l x = some i → ∃ fl, l[i]? = some (x, fl)
  | [], _, _, h => by cases h
  | p :: r, x, i, h => by
    unfold fnIx at h
    split at h
    · rename_i e; cases h; exact ⟨p.2, by rw [← e]; rfl⟩
    · cases q : fnIx r x with
      | none => rw [q] at h; cases h
      | some j =>
        rw [q] at h
        cases h
        have := fnIx_ok q
        simpa using this
theorem lookC_ok : ∀ {l : List (Str × PyData)} {x : Str} {d : PyData}, lookC l x = some d → (x, d) ∈ l
  | [], _, _, h => by cases h
  | p :: r, x, d, h => by
    unfold lookC at h
    split at h
    · rename_i e; cases h; rw [← e]; exact List.mem_cons_self
    · exact List.mem_cons_of_mem _ (lookC_ok h)
def lookM : List (Str × List (Str × PyData)) → Str → Option (List (Str × PyData))
  | [], _ => none
  | p :: r, x => if p.1 = x then some p.2 else lookM r x
theorem lookM_ok : ∀ {l : List (Str × List (Str × PyData))} {x : Str} {d : List (Str × PyData)}, lookM l x = some d → (x, d) ∈ l
  | [], _, _, h => by cases h
  | p :: r, x, d, h => by
    unfold lookM at h
    split at h
    · rename_i e; cases h; rw [← e]; exact List.mem_cons_self
    · exact List.mem_cons_of_mem _ (lookM_ok h)
def isVis (sc : Scope) (x : Str) : Bool := match sc.names.lookup x with
  | some .local => true
  | some .cell => true
  | some .free => true
  | _ => false
theorem isVis_ok {sc : Scope} {x : Str} (h : isVis sc x = true) : Vis sc x := by
  unfold isVis at h
  split at h
  · exact .inl ‹_›
  · exact .inr (.inl ‹_›)
  · exact .inr (.inr ‹_›)
  · cases h
def isGl (sc : Scope) (x : Str) : Bool := match sc.names.lookup x with
  | some .globalImplicit => true
  | _ => false
def okN (x : Str) : Bool := !(x == ("__debug__" : Str)) && !(x == ("__classdict__" : Str)) && !(decide (x = ("__name__" : Str)))
theorem okN_ok {x : Str} (h : okN x = true) : (x == ("__debug__" : Str)) = false ∧ (x == ("__classdict__" : Str)) = false ∧ x ≠ "__name__" := by
  unfold okN at h
  simp only [Bool.and_eq_true, Bool.not_eq_true', decide_eq_false_iff_not] at h
  exact ⟨h.1.1, h.1.2, h.2⟩
def mdC (md : Md) (i : Nat) : CE := match md with
  | .keep => .var i
  | .look => .pv i
  | .move => .mv i
  | .soft => .soft i
  | .test => .pv i
  | .late => .lt i
def cGlob (tb : Tb) (sc : Scope) (x : Str) : CE := if isGl sc x = true then (match fnIx tb.fns x with
    | some g => .fn g
    | none => match lookC tb.cst x with
      | some d => .cst d
      | none => .nve) else .nve
def slot (N : List Str) (sc : Scope) (x : Str) : Option Nat := if (okN x && isVis sc x) = true then idx N x else none
def cName (tb : Tb) (N : List Str) (sc : Scope) (md : Md) (x : Str) : CE := match slot N sc x with
  | some i => mdC md i
  | none => if okN x = true then cGlob tb sc x else .nve
section
variable {X : Cx} {S : Sur} {tb : Tb} {lvl : Nat} {N : List Str} {sc : Scope} {x : Str} {pos : Pos}
theorem At.gl (a : At X S tb lvl N sc) (h : isGl sc x = true) : Gl X x := by
  show X.env.scope.names.lookup x = _
  rw [a.sc]
  unfold isGl at h
  split at h
  · assumption
  · cases h
theorem At.vis (a : At X S tb lvl N sc) (h : isVis sc x = true) : Vis X.env.scope x := by rw [a.sc]; exact isVis_ok h
theorem At.un (a : At X S tb lvl N sc) : X.A.units + 1100 < cLine := by have := a.rm.un; have := a.hi; omega
theorem slot_ok {i : Nat} (h : slot N sc x = some i) : okN x = true ∧ isVis sc x = true ∧ N[i]? = some x := by
  unfold slot at h
  split at h
  · rename_i q
    exact ⟨(qt2 q).1, (qt2 q).2, idx_ok h⟩
  · cases h
theorem cName_ok (a : At X S tb lvl N sc) (md : Md) : PE X (.Name x pos) (lE S (cName tb N sc md x)) := by
  unfold cName
  split
  · rename_i i h
    obtain ⟨h1, h2, h3⟩ := slot_ok h
    obtain ⟨d1, d2, d3⟩ := okN_ok h1
    have hN : X.N[i]? = some x := by rw [a.n]; exact h3
    cases md with
    | keep => exact s_var hN (a.vis h2) d1 d2
    | look => exact s_pv hN (a.vis h2) d1 d2
    | move => exact s_mv hN (a.vis h2) d1 d2
    | soft => exact s_soft hN (a.vis h2) d1 d2
    | test => exact s_pv hN (a.vis h2) d1 d2
    | late => exact s_lt hN (a.vis h2) d1 d2
  · split
    · rename_i h1
      obtain ⟨d1, d2, d3⟩ := okN_ok h1
      unfold cGlob
      split
      · rename_i hg
        split
        · rename_i g h
          obtain ⟨fl, h⟩ := fnIx_ok h
          obtain ⟨m, _⟩ := a.fn g x fl h
          exact s_fn (pe_glob (a.gl hg) m rfl d1)
        · split
          · rename_i d h
            obtain ⟨u, v, m, r, q⟩ := a.cst x d (lookC_ok h)
            exact s_cst (pe_glob (a.gl hg) m r d1) q
          · exact s_nve
      · exact s_nve
    · exact s_nve
/-! ### operators -/
def cBop : Operator → Option Bop
  | .Add => some .add
  | .Sub => some .sub
  | .Mult => some .mul
  | .Mod => some .mod
  | .FloorDiv => some .fdiv
  | .Pow => some .pow
  | _ => none
def cCop : CmpOp → Option Cop
  | .Eq => some .eq
  | .NotEq => some .ne
  | .Lt => some .lt
  | .LtE => some .le
  | .Gt => some .gt
  | .GtE => some .ge
  | .Is => some .isn
  | .IsNot => some .nisn
  | .In => some .in_
  | .NotIn => some .nin
theorem bop_ok (a : At X S tb lvl N sc) {op : Operator} {b : Bop} (h : cBop op = some b) : ∃ rr, OpR X (binaryOp op) rr ∧ OpS S rr (binU b) := by
  cases op with
  | Add => cases h; exact ⟨_, or_add, by rw [a.K]; exact o_add⟩
  | Sub => cases h; exact ⟨_, Fi.OpR.toC op_sub, o_sub⟩
  | Mult => cases h; exact ⟨_, or_mul, by rw [a.K]; exact o_mul⟩
  | Mod => cases h; exact ⟨_, op_mod, o_mod⟩
  | FloorDiv => cases h; exact ⟨_, op_fdiv, o_fdiv⟩
  | Pow => cases h; exact ⟨_, op_pow, o_pow⟩
  | _ => cases h
theorem cop_ok (a : At X S tb lvl N sc) {op : CmpOp} {b : Cop} (h : cCop op = some b) : ∃ rr, OpR X (compareOp op) rr ∧ OpS S rr (cmpU b) := by
  have u := a.un
  cases op with
  | Eq => cases h; exact ⟨_, or_eq a.sys (by omega), by rw [a.K]; exact o_eq⟩
  | NotEq => cases h; exact ⟨_, or_ne a.sys (by omega), by rw [a.K]; exact o_ne⟩
  | Lt => cases h; exact ⟨_, op_lt, o_lt⟩
  | LtE => cases h; exact ⟨_, op_le, o_le⟩
  | Gt => cases h; exact ⟨_, op_gt, o_gt⟩
  | GtE => cases h; exact ⟨_, op_ge, o_ge⟩
  | Is => cases h; exact ⟨_, op_isN, o_isn⟩
  | IsNot => cases h; exact ⟨_, op_notN, o_nisn⟩
  | In => cases h; exact ⟨_, or_in a.sys (by omega), by rw [a.K]; exact o_in⟩
  | NotIn => cases h; exact ⟨_, or_nin a.sys (by omega), by rw [a.K]; exact o_nin⟩
/-! ### what the text looks like -/
def plain : Expr → Bool
  | .Starred _ _ => false
  | _ => true
theorem star_ok {e : Expr} {r : List Expr} {env : PySem.Env} (h : plain e = true) : starEach (e :: r) env = (false, eval e env) :: starEach r env := by
  cases e <;> first | rfl | cases h
theorem back_ok {es : List Expr} {env : PySem.Env} (h : es.all plain = true) : (backTo pos (starEach es env)).any (·.1) = false := by
  induction es with
  | nil => rfl
  | cons e r ih =>
    rw [List.all_cons, Bool.and_eq_true] at h
    rw [star_ok h.1]
    exact ih h.2
theorem backAll_ok {es : List Expr} {env : PySem.Env} (h : es.all plain = true) : (backTo pos (starEach es env)).all (fun x => !x.1) = true := by
  induction es with
  | nil => rfl
  | cons e r ih =>
    rw [List.all_cons, Bool.and_eq_true] at h
    rw [star_ok h.1]
    exact ih h.2
/-- no call, so no super() -/
def noCall : Expr → Bool
  | .Call _ _ _ _ => false
  | _ => true
theorem base_ok {o : Expr} {nm : Str} {env : PySem.Env} (h : noCall o = true) : attributeBase o nm env (eval o env) = eval o env := by
  cases o <;> first | rfl | cases h
def noSlice : Expr → Bool
  | .Slice _ _ _ _ => false
  | _ => true
theorem plainIx_ok {b : Expr} (h : noSlice b = true) : PlainIx b := fun o i => by
  cases b <;> first | rfl | cases h
def noSet : Expr → Bool
  | .Set _ _ _ => false
  | _ => true
theorem mark_ok {op : CmpOp} {b : Expr} (h : noSet b = true) : behindInMarks op b = false := by
  cases b <;> first | rfl | cases h
theorem folded_ok {e : Expr} {env : PySem.Env} (h : noSet e = true) : ∀ x, foldedSetIterable e env x = pure x := fun x => by
  cases e <;> first | rfl | cases h
/-- a test that is its value -/
def valTest : Expr → Bool
  | .UnaryOp .Not _ _ => false
  | .BoolOp _ _ _ => false
  | .IfExp _ _ _ _ => false
  | .Compare _ _ _ _ => false
  | _ => true
theorem valTest_ok {e : Expr} {env : PySem.Env} (h : valTest e = true) : ∀ whole, isTrue e env whole = (do let v ← whole; standAt e.pos; holding [v] (truthy v)) := fun whole => by
  cases e with
  | UnaryOp op a p => cases op <;> first | rfl | cases h
  | BoolOp => cases h
  | IfExp => cases h
  | Compare => cases h
  | _ => rfl
def noComp : Expr → Bool
  | .ListComp _ _ _ _ => false
  | .SetComp _ _ _ _ => false
  | .DictComp _ _ _ _ _ => false
  | _ => true
theorem swaps_ok {e : Expr} {t : Option Expr} {n : Nat} {env : PySem.Env} (h : noComp e = true) : swapsWith e t n env = pure false := by
  cases e <;> first | rfl | cases h
end
end Fi
/-! From the program's text to the core: expressions. -/
namespace Fi
open PySem PySem.Spec PyProof.Rows L2
def cvs (f : Expr → CE) : List Expr → CEs
  | [] => .nil
  | e :: r => .cons (f e) (cvs f r)
/-- arguments, each by its flag -/
def cvf (f : Md → Expr → CE) : List Bool → List Expr → CEs
  | b :: bs, e :: r => .cons (f (if b = true then .late else .keep) e) (cvf f bs r)
  | [], e :: r => .cons (f .keep e) (cvf f [] r)
  | _, [] => .nil
def cvk (f : Expr → CE) : List Keyword → CEs
  | [] => .nil
  | k :: r => .cons (f k.value) (cvk f r)
def seqB (mk : CE → CE → CE) : List CE → CE
  | [] => .nve
  | [c] => c
  | c :: d :: r => mk c (seqB mk (d :: r))
def cConst : Const → CE
  | .int i => .cst (.int i)
  | .bool b => .cst (.bool b)
  | .none => .cst .none
  | .str s => .cst (.str s)
  | _ => .nve
def cOpt (f : Expr → CE) : Option Expr → CO
  | none => .none
  | some e => .some (f e)
def muOf (nm : Str) (n : Nat) : Option Mu := if nm = ("append" : Str) ∧ n = 1 then some .append else if nm = ("pop" : Str) ∧ n = 0 then some .pop else if nm = ("pop" : Str) ∧ n = 1 then some .popAt else if nm = ("insert" : Str) ∧ n = 2 then some .insert else if nm = ("extend" : Str) ∧ n = 1 then some .extend else none
def meOf (nm : Str) : Option Me := if nm = ("get" : Str) then some .get else if nm = ("join" : Str) then some .join else if nm = ("upper" : Str) then some .upper else if nm = ("split" : Str) then some .split else if nm = ("startswith" : Str) then some .startswith else none
def biOf (x : Str) (n : Nat) : Option Bi := if n = 1 then (if x = ("len" : Str) then some .len else if x = ("tuple" : Str) then some .tuple else if x = ("list" : Str) then some .list else if x = ("all" : Str) then some .all else if x = ("any" : Str) then some .any else if x = ("sum" : Str) then some .sum
  else if x = ("int" : Str) then some .int else if x = ("str" : Str) then some .str else if x = ("repr" : Str) then some .repr else none)
  else if n = 2 then (if x = ("max" : Str) then some .max2 else if x = ("min" : Str) then some .min2 else none) else none
def tyOf (x : Str) : Option String := if x = ("int" : Str) then some "int" else if x = ("bool" : Str) then some "bool" else if x = ("str" : Str) then some "str" else if x = ("tuple" : Str) then some "tuple" else if x = ("list" : Str) then some "list" else if x = ("dict" : Str) then some "dict" else none
section
variable {X : Cx} {S : Sur} {tb : Tb} {lvl : Nat} {N : List Str} {sc : Scope}
/-- what is known of the parts -/
def OkE (X : Cx) (S : Sur) (f : Expr → CE) : Prop := ∀ e, PE X e (lE S (f e))
theorem cvs_ok {f : Expr → CE} (hf : OkE X S f) : ∀ {es : List Expr}, es.all plain = true → PA X es (lA S (cvs f es))
  | [], _ => a_nil
  | e :: r, h => by
    rw [List.all_cons, Bool.and_eq_true] at h
    exact a_cons (hf e) (cvs_ok hf h.2) (star_ok h.1)
theorem cvf_ok {f : Md → Expr → CE} (hf : ∀ m, m ≠ .test → OkE X S (f m)) : ∀ {bs : List Bool} {es : List Expr}, es.all plain = true → PA X es (lA S (cvf f bs es))
  | bs, [], _ => by
    have : cvf f bs [] = .nil := by cases bs <;> rfl
    rw [this]; exact a_nil
  | [], e :: r, h => by
    rw [List.all_cons, Bool.and_eq_true] at h
    exact a_cons (hf .keep (by decide) e) (cvf_ok hf (bs := []) h.2) (star_ok h.1)
  | b :: bs, e :: r, h => by
    rw [List.all_cons, Bool.and_eq_true] at h
    exact a_cons (hf _ (by cases b <;> decide) e) (cvf_ok hf (bs := bs) h.2) (star_ok h.1)
theorem cvk_ok {f : Expr → CE} (hf : OkE X S f) : ∀ {ks : List Keyword}, PK X ks (lA S (cvk f ks))
  | [] => k_nil
  | ⟨nm, e, p⟩ :: r => k_cons (hf e) (cvk_ok hf)
theorem cConst_ok {c : Const} {k : Nat} {pos : Pos} : PE X (.Constant c k pos) (lE S (cConst c)) := by
  cases c <;> first | exact s_int | exact s_bl | exact s_non | exact s_str | exact s_nve
theorem cOpt_ok {f : Expr → CE} (hf : OkE X S f) (o : Option Expr) : PO X o (lO S (cOpt f o)) := by
  cases o with
  | none => exact p_none
  | some e => exact p_some (hf e)
theorem and_ok {f : Expr → CE} (hf : OkE X S f) {pos : Pos} : ∀ {es : List Expr}, PE X (.BoolOp .And es pos) (lE S (seqB .an (es.map f)))
  | [] => s_nve
  | [e] => s_one (hf e)
  | e :: e2 :: r => s_an (hf e) (and_ok hf (es := e2 :: r))
theorem or_ok {f : Expr → CE} (hf : OkE X S f) {pos : Pos} : ∀ {es : List Expr}, PE X (.BoolOp .Or es pos) (lE S (seqB .orr (es.map f)))
  | [] => s_nve
  | [e] => s_one (hf e)
  | e :: e2 :: r => s_or (hf e) (or_ok hf (es := e2 :: r))
theorem t_nve {e : Expr} : PT X e (lT S .nve) := ⟨fun pins s σ H Q I ⟨T, e, f, h⟩ => by rw [ev] at h; exact h.elim⟩
theorem tand_ok {f : Expr → CE} (hf : ∀ e, PT X e (lT S (f e))) {pos : Pos} : ∀ {es : List Expr}, es ≠ [] → PW X (.BoolOp .And es pos) (lT S (seqB .an (es.map f)))
  | [], h => absurd rfl h
  | [e], _ => pw_and1 (hf e)
  | e :: e2 :: r, _ => t_an (hf e) (tand_ok hf (es := e2 :: r) (by simp))
theorem tor_ok {f : Expr → CE} (hf : ∀ e, PT X e (lT S (f e))) {pos : Pos} : ∀ {es : List Expr}, es ≠ [] → PW X (.BoolOp .Or es pos) (lT S (seqB .orr (es.map f)))
  | [], h => absurd rfl h
  | [e], _ => pw_or1 (hf e)
  | e :: e2 :: r, _ => t_or (hf e) (tor_ok hf (es := e2 :: r) (by simp))
theorem mu_ok {nm : Str} {n : Nat} {m : Mu} (h : muOf nm n = some m) : ∃ id r, Slot "list" nm id ∧ typeOf (.builtin id) = pure (.type "method_descriptor") ∧ MtR X id r ∧ MuS S r (muO m) := by
  unfold muOf at h
  split at h
  · rename_i q; cases h; rw [q.1]; exact ⟨_, _, PySem.F.slot_list_append, PySem.F.type_list_append, mt_append, mu_append⟩
  · split at h
    · rename_i q; cases h; rw [q.1]; exact ⟨_, _, PySem.F.slot_list_pop, PySem.F.type_list_pop, mt_pop, mu_pop⟩
    · split at h
      · rename_i q; cases h; rw [q.1]; exact ⟨_, _, PySem.F.slot_list_pop, PySem.F.type_list_pop, mt_popAt, mu_popAt⟩
      · split at h
        · rename_i q; cases h; rw [q.1]; exact ⟨_, _, PySem.F.slot_list_insert, PySem.F.type_list_insert, mt_insert, mu_insert⟩
        · split at h
          · rename_i q; cases h; rw [q.1]; exact ⟨_, _, PySem.F.slot_list_extend, PySem.F.type_list_extend, mt_extend, mu_extend⟩
          · cases h
theorem me_ok (a : At X S tb lvl N sc) {nm : Str} {m : Me} (h : meOf nm = some m) : ∃ ty id r, PlainAttrs ty ∧ Slot ty nm id ∧ typeOf (.builtin id) = pure (.type "method_descriptor") ∧ MtR X id r ∧ MeS S r m ∧ TyS S ty m := by
  have un := a.un
  unfold meOf at h
  split at h
  · rename_i q; cases h; rw [q]; exact ⟨_, _, _, PySem.F.plainAttrs_dict, PySem.F.slot_dict_get, PySem.F.type_dict_get, mt_dget (by omega), m_get, ty_get⟩
  · split at h
    · rename_i q; cases h; rw [q]; exact ⟨_, _, _, PySem.F.plainAttrs_str, PySem.F.slot_str_join, PySem.F.type_str_join, mt_join, by rw [a.K]; exact m_join, ty_str _ (by decide)⟩
    · split at h
      · rename_i q; cases h; rw [q]; exact ⟨_, _, _, PySem.F.plainAttrs_str, PySem.F.slot_str_upper, PySem.F.type_str_upper, mt_upper, m_upper, ty_str _ (by decide)⟩
      · split at h
        · rename_i q; cases h; rw [q]; exact ⟨_, _, _, PySem.F.plainAttrs_str, PySem.F.slot_str_split, PySem.F.type_str_split, mt_split, m_split, ty_str _ (by decide)⟩
        · split at h
          · rename_i q; cases h; rw [q]; exact ⟨_, _, _, PySem.F.plainAttrs_str, PySem.F.slot_str_startswith, PySem.F.type_str_startswith, mt_startswith, m_starts, ty_str _ (by decide)⟩
          · cases h
theorem bi_ok (a : At X S tb lvl N sc) {x : Str} {n : Nat} {b : Bi} (h : biOf x n = some b) : x ∈ freeN ∧ x ≠ "__name__" ∧ (x == ("__debug__" : Str)) = false ∧ ((∃ id rr, bootBuiltins x = some (.builtin id) ∧ CallR X (.builtin id) rr ∧ CbS S rr b) ∨ ∃ T rr, bootBuiltins x = some (.type T) ∧ CallR X (.type T) rr ∧ CbS S rr b) := by
  have un := a.un
  unfold biOf at h
  split at h
  · split at h
    · rename_i q; cases h; rw [q]; exact ⟨by decide, by decide, by decide, .inl ⟨"len", _, by decide +kernel, cr_len, by rw [a.K]; exact b_len⟩⟩
    · split at h
      · rename_i q; cases h; rw [q]; exact ⟨by decide, by decide, by decide, .inr ⟨"tuple", _, by decide +kernel, call_tuple_of, by rw [a.K]; exact b_tuple⟩⟩
      · split at h
        · rename_i q; cases h; rw [q]; exact ⟨by decide, by decide, by decide, .inr ⟨"list", _, by decide +kernel, call_list_of, by rw [a.K]; exact b_list⟩⟩
        · split at h
          · rename_i q; cases h; rw [q]; exact ⟨by decide, by decide, by decide, .inl ⟨"all", _, by decide +kernel, cr_all a.calm, by rw [a.K]; exact b_all⟩⟩
          · split at h
            · rename_i q; cases h; rw [q]; exact ⟨by decide, by decide, by decide, .inl ⟨"any", _, by decide +kernel, cr_any a.calm, by rw [a.K]; exact b_any⟩⟩
            · split at h
              · rename_i q; cases h; rw [q]; exact ⟨by decide, by decide, by decide, .inl ⟨"sum", _, by decide +kernel, cr_sum a.calm, by rw [a.K]; exact b_sum⟩⟩
              · split at h
                · rename_i q; cases h; rw [q]; exact ⟨by decide, by decide, by decide, .inr ⟨"int", _, by decide +kernel, call_int1, b_int⟩⟩
                · split at h
                  · rename_i q; cases h; rw [q]; exact ⟨by decide, by decide, by decide, .inr ⟨"str", _, by decide +kernel, call_str1, b_str⟩⟩
                  · split at h
                    · rename_i q; cases h; rw [q]; exact ⟨by decide, by decide, by decide, .inl ⟨"repr", _, by decide +kernel, cr_repr a.gd (by omega) a.sys, by rw [a.K]; exact b_repr⟩⟩
                    · cases h
  · split at h
    · split at h
      · rename_i q; cases h; rw [q]; exact ⟨by decide, by decide, by decide, .inl ⟨"max", _, by decide +kernel, call_max2 a.calm, b_max2⟩⟩
      · split at h
        · rename_i q; cases h; rw [q]; exact ⟨by decide, by decide, by decide, .inl ⟨"min", _, by decide +kernel, call_min2 a.calm, b_min2⟩⟩
        · cases h
    · cases h
end
end Fi
/-! From the program's text to the core: one step. -/
namespace Fi
open PySem PySem.Spec PyProof.Rows L2
def cPath (f : Expr → CE) (N : List Str) (sc : Scope) : Nat → Expr → Option (Nat × CEs)
  | 0, _ => none
  | n + 1, e => match e with
    | .Name x _ => (slot N sc x).map fun i => (i, .nil)
    | .Subscript a b _ => match cPath f N sc n a with
      | some p => if (qt (f b) && noSlice b) = true then some (p.1, catE p.2 (.cons (f b) .nil)) else none
      | none => none
    | _ => none
def depthP : Nat := 6
def cSub (f : Expr → CE) (a b : Expr) : CE := match b with
  | .Slice lo hi st _ => (match st with
    | none => .slc (f a) (cOpt f lo) (cOpt f hi)
    | some (.UnaryOp .USub (.Constant (.int 1) _ _) _) => (match lo, hi with
      | none, none => .rev (f a)
      | _, _ => .nve)
    | _ => .nve)
  | b => .sub (f a) (f b)
def emptyL : Expr → Bool
  | .List [] _ => true
  | _ => false
def eqNeg : CmpOp → Option Bool
  | .Eq => some false
  | .NotEq => some true
  | _ => none
def isSub : Expr → Bool
  | .Subscript _ _ _ => true
  | _ => false
def cCmpP (f : Expr → CE) (N : List Str) (sc : Scope) (op : CmpOp) (a b : Expr) : Option CE := if (emptyL b && isSub a && qt (f b)) = true then (match eqNeg op with
    | some neg => (match cPath f N sc depthP a with
      | some p => some (.cmpP neg p.1 p.2 (f b))
      | none => none)
    | none => none) else none
def cCmp1 (f : Expr → CE) (N : List Str) (sc : Scope) (op : CmpOp) (a b : Expr) : CE := match cCmpP f N sc op a b with
  | some c => c
  | none => if noSet b = true then (match cCop op with
    | some o => .cmp o (f a) (f b)
    | none => .nve) else .nve
def leOp : CmpOp → Bool
  | .Lt => true
  | .LtE => true
  | _ => false
def cCmp (f : Expr → CE) (N : List Str) (sc : Scope) (ops : List CmpOp) (a : Expr) (bs : List Expr) : CE := match ops, bs with
  | [op], [b] => cCmp1 f N sc op a b
  | [o1, o2], [b, c] => if (leOp o1 && leOp o2 && noSet c) = true then (match cCop o1, cCop o2 with
    | some p1, some p2 => .chn p1 p2 (f a) (f b) (f c)
    | _, _ => .nve) else .nve
  | _, _ => .nve
section
variable {X : Cx} {S : Sur} {tb : Tb} {lvl : Nat} {N : List Str} {sc : Scope} {pos : Pos}
theorem cPath_ok (a : At X S tb lvl N sc) {f : Expr → CE} (hf : OkE X S f) : ∀ {n : Nat} {e : Expr} {p : Nat × CEs}, cPath f N sc n e = some p → PE X e (lP S p.1 p.2)
  | 0, e, p, h => by unfold cPath at h; cases h
  | n + 1, e, p, h => by
    have un := a.un
    unfold cPath at h
    split at h
    · obtain ⟨i, hi, he⟩ := ofn h
      subst he
      obtain ⟨h1, h2, h3⟩ := slot_ok hi
      obtain ⟨d1, d2, d3⟩ := okN_ok h1
      exact p_base (by rw [a.n]; exact h3) (a.vis h2) d1 d2
    · split at h
      · rename_i p2 hp
        obtain ⟨hq, he⟩ := oif h
        subst he
        exact p_step a.K (by omega) (cPath_ok a hf hp) (hf _) (qt2 hq).1 (plainIx_ok (qt2 hq).2)
      · cases h
    · cases h
theorem cSub_ok (a : At X S tb lvl N sc) {f : Expr → CE} (hf : OkE X S f) {x b : Expr} : PE X (.Subscript x b pos) (lE S (cSub f x b)) := by
  have un := a.un
  unfold cSub
  split
  · split
    · exact s_slc a.K (hf _) (cOpt_ok hf _) (cOpt_ok hf _)
    · split
      · exact s_rev a.K (hf _)
      · exact s_nve
    · exact s_nve
  · rename_i hb
    refine s_sub (or_ix (by omega)) (by rw [a.K]; exact o_sub') (hf x) (hf b) (plainIx_ok ?_)
    cases b with
    | Slice lo hi st p => exact absurd rfl (hb lo hi st p)
    | _ => rfl
theorem cCmpP_ok (a : At X S tb lvl N sc) {f : Expr → CE} (hf : OkE X S f) {op : CmpOp} {x b : Expr} {c : CE} (h : cCmpP f N sc op x b = some c) : PE X (.Compare x [op] [b] pos) (lE S c) ∧ PT X (.Compare x [op] [b] pos) (lT S c) := by
  have un := a.un
  unfold cCmpP at h
  split at h
  · rename_i hc
    split at h
    · rename_i neg hn
      split at h
      · rename_i p hp
        cases h
        have hq := (qt2 hc).2
        have e1 : op = (if neg = true then .NotEq else .Eq) := by
          cases op with
          | Eq => cases hn; rfl
          | NotEq => cases hn; rfl
          | _ => cases hn
        have hm : ∀ op, behindInMarks op b = false := fun op => mark_ok (by
          have := (qt2 (qt2 hc).1).1
          cases b with
          | Set => cases this
          | _ => rfl)
        subst e1
        exact ⟨s_cmpP a.K a.sys (by omega) (cPath_ok a hf hp) (hf b) hq (hm _), t_cmpP a.K a.sys (by omega) (cPath_ok a hf hp) (hf b) hq (hm _)⟩
      · cases h
    · cases h
  · cases h
theorem cCmp1_ok (a : At X S tb lvl N sc) {f : Expr → CE} (hf : OkE X S f) {op : CmpOp} {x b : Expr} : PE X (.Compare x [op] [b] pos) (lE S (cCmp1 f N sc op x b)) ∧ PT X (.Compare x [op] [b] pos) (lT S (cCmp1 f N sc op x b)) := by
  unfold cCmp1
  split
  · rename_i c h; exact cCmpP_ok a hf h
  · split
    · rename_i hs
      split
      · rename_i o ho
        obtain ⟨rr, h1, h2⟩ := cop_ok a ho
        exact ⟨s_cmp h1 h2 (hf x) (hf b) (mark_ok hs), t_cmp h1 h2 (hf x) (hf b) (mark_ok hs)⟩
      · exact ⟨s_nve, t_nve⟩
    · exact ⟨s_nve, t_nve⟩
theorem le_cop {op : CmpOp} {p : Cop} (h : leOp op = true) (hp : cCop op = some p) : p = .le ∨ p = .lt := by
  cases op with
  | Lt => cases hp; exact .inr rfl
  | LtE => cases hp; exact .inl rfl
  | _ => cases h
theorem cCmp_ok (a : At X S tb lvl N sc) {f : Expr → CE} (hf : OkE X S f) {ops : List CmpOp} {x : Expr} {bs : List Expr} : PE X (.Compare x ops bs pos) (lE S (cCmp f N sc ops x bs)) ∧ PT X (.Compare x ops bs pos) (lT S (cCmp f N sc ops x bs)) := by
  unfold cCmp
  split
  · exact cCmp1_ok a hf
  · rename_i o1 o2 b c
    split
    · rename_i hc
      split
      · rename_i p1 p2 h1 h2
        obtain ⟨r1, a1, b1⟩ := cop_ok a h1
        obtain ⟨r2, a2, b2⟩ := cop_ok a h2
        have hl := le_cop (qt2 (qt2 hc).1).1 h1
        have hm : lastMarks [o1, o2] [b, c] = false := by
          show behindInMarks o2 c = false
          exact mark_ok (qt2 hc).2
        exact ⟨imp_e (pe_chain a1 a2 (hf x) (hf b) (hf c) hm) fun _ _ _ h => chn_get b1 b2 cmp_fre hl h, t_of_pe (pt_chain a1 a2 (hf x) (hf b) (hf c) hm) (fun h => chn_get b1 b2 cmp_fre hl h) (fun _ _ => trivial)⟩
      · exact ⟨s_nve, t_nve⟩
    · exact ⟨s_nve, t_nve⟩
  · exact ⟨s_nve, t_nve⟩
/-! ### dicts of the module -/
def dctOf (tb : Tb) (N : List Str) (sc : Scope) (e : Expr) : Option (List (Str × PyData)) := match e with
  | .Name x _ => if (okN x && isGl sc x && (slot N sc x).isNone) = true then lookM tb.dct x else none
  | _ => none
def cSubD (tb : Tb) (N : List Str) (sc : Scope) (f : Expr → CE) (a b : Expr) : CE := match dctOf tb N sc a with
  | some kvs => if noSlice b = true then .ixc kvs (f b) else .nve
  | none => cSub f a b
def inNeg : CmpOp → Option Bool
  | .In => some false
  | .NotIn => some true
  | _ => none
def cCmpD (tb : Tb) (N : List Str) (sc : Scope) (f : Expr → CE) (ops : List CmpOp) (a : Expr) (bs : List Expr) : CE := match ops, bs with
  | [op], [b] => (match dctOf tb N sc b, inNeg op with
    | some kvs, some neg => .inc neg kvs (f a)
    | _, _ => cCmp f N sc [op] a [b])
  | ops, bs => cCmp f N sc ops a bs
theorem dct_ok (a : At X S tb lvl N sc) {e : Expr} {kvs : List (Str × PyData)} (h : dctOf tb N sc e = some kvs) : ∃ p, PE X e (tC (.ref p)) ∧ DctK X.K X.w S.K p kvs ∧ noSet e = true := by
  unfold dctOf at h
  split at h
  · rename_i x pos
    split at h
    · rename_i hc
      have h1 := (qt2 (qt2 hc).1).1
      have h2 := (qt2 (qt2 hc).1).2
      obtain ⟨d1, d2, d3⟩ := okN_ok h1
      obtain ⟨p, m, q⟩ := a.dct x kvs (lookM_ok h)
      exact ⟨p, pe_glob (a.gl h2) m rfl d1, q, rfl⟩
    · cases h
  · cases h
theorem ixc_get {kvs : List (Str × PyData)} {p : Addr} {c : CE} {σ : L2.St} {H : Hp} {Q : VK} (hd : DctK X.K X.w S.K p kvs) (h : lE S (.ixc kvs c) σ H Q) : tOp (rIxD X.K X.w) (tC (.ref p)) (lE S c) σ H Q := by
  obtain ⟨es, n, D, hv⟩ := hd
  obtain ⟨T, e, f, h⟩ := h
  rw [ev] at h
  refine ⟨T, e, f, out_mono (out_bd.mp h) (fun x e1 h1 v H1 f1 s1 => ?_) fun _ _ z => z⟩
  split at h1
  · rename_i z
    obtain ⟨w, ew, k⟩ := out_lift h1
    have hz := hv z
    cases q : lookC kvs z with
    | none => rw [q] at ew; cases ew
    | some d =>
      rw [q] at ew hz
      cases ew
      obtain ⟨u, v0, e1, r, hq⟩ := hz
      refine ⟨p, z, v0, rfl, f1.dstr, ⟨es, n, u, D.at_, D.lit, e1, r⟩, k v0 H1 (f1.tail.add (fun D => ⟨rfl, hq D H1⟩) rfl) (sid fun q => absurd q (by simp [qt]))⟩
  · exact h1.elim
theorem inc_get {kvs : List (Str × PyData)} {p : Addr} {c : CE} {neg : Bool} {σ : L2.St} {H : Hp} {Q : VK} (hd : DctK X.K X.w S.K p kvs) (h : lE S (.inc neg kvs c) σ H Q) : tOp (fun x y H Q => ∃ (z : Str) (r : Option Value), x = .str z ∧ y = .ref p ∧ PySem.W.nsIn X.K p z = some r ∧ Q (.bl (neg != r.isSome)) H) (lE S c) (tC (.ref p)) σ H Q := by
  obtain ⟨es, n, D, hv⟩ := hd
  obtain ⟨T, e, f, h⟩ := h
  rw [ev] at h
  refine ⟨T, e, f, out_mono (out_bd.mp h) (fun x e1 h1 v H1 f1 s1 => ?_) fun _ _ z => z⟩
  split at h1
  · rename_i z
    have hz := hv z
    have go : ∀ r, PySem.W.nsIn X.K p z = some r → r.isSome = (lookC kvs z).isSome → ∃ (z : Str) (r : Option Value), v = .str z ∧ V.ref p = .ref p ∧ PySem.W.nsIn X.K p z = some r ∧ Q (.bl (neg != r.isSome)) H1 := fun r e1 e2 => by
      refine ⟨z, r, f1.dstr, rfl, e1, ?_⟩
      rw [e2]
      exact h1 _ H1 f1.tail.bl (sid fun q => absurd q (by simp [qt]))
    cases q : lookC kvs z with
    | none =>
      rw [q] at hz
      exact go none hz (by rw [q]; rfl)
    | some d =>
      rw [q] at hz
      obtain ⟨u, v0, e1, _⟩ := hz
      exact go _ e1 (by rw [q]; rfl)
  · exact h1.elim
theorem cSubD_ok (a : At X S tb lvl N sc) {f : Expr → CE} (hf : OkE X S f) {x b : Expr} : PE X (.Subscript x b pos) (lE S (cSubD tb N sc f x b)) := by
  unfold cSubD
  split
  · rename_i kvs h
    obtain ⟨p, h1, h2, _⟩ := dct_ok a h
    split
    · rename_i hn
      exact imp_e (pe_ix ix_kdict h1 (hf b) (plainIx_ok hn)) fun _ _ _ h => ixc_get h2 h
    · exact s_nve
  · exact cSub_ok a hf
theorem in_op {p : Addr} {kvs : List (Str × PyData)} {op : CmpOp} {neg : Bool} (hn : inNeg op = some neg) (hd : DctK X.K X.w S.K p kvs) : OpR X (compareOp op) (fun x y H Q => ∃ (z : Str) (r : Option Value), x = .str z ∧ y = .ref p ∧ PySem.W.nsIn X.K p z = some r ∧ Q (.bl (neg != r.isSome)) H) := by
  obtain ⟨es, n, D, hv⟩ := hd
  cases op with
  | In =>
    cases hn
    intro pins s σ H x y v u Q I rx ry ⟨z, r, h1, h2, h3, h4⟩
    refine op_in_kd D pins s σ H x y v u Q I rx ry ⟨z, r, h1, h2, h3, ?_⟩
    cases r <;> exact h4
  | NotIn =>
    cases hn
    intro pins s σ H x y v u Q I rx ry ⟨z, r, h1, h2, h3, h4⟩
    refine op_notIn_kd D pins s σ H x y v u Q I rx ry ⟨z, r, h1, h2, h3, ?_⟩
    cases r <;> exact h4
  | _ => cases hn
theorem cCmpD_ok (a : At X S tb lvl N sc) {f : Expr → CE} (hf : OkE X S f) {ops : List CmpOp} {x : Expr} {bs : List Expr} : PE X (.Compare x ops bs pos) (lE S (cCmpD tb N sc f ops x bs)) ∧ PT X (.Compare x ops bs pos) (lT S (cCmpD tb N sc f ops x bs)) := by
  unfold cCmpD
  split
  · rename_i op b
    split
    · rename_i kvs neg h1 h2
      obtain ⟨p, g1, g2, g3⟩ := dct_ok a h1
      exact ⟨imp_e (pe_cmpR (in_op h2 g2) (hf x) g1 (mark_ok g3)) fun _ _ _ h => inc_get g2 h, imp_t (pt_cmpR (in_op h2 g2) (hf x) g1 (mark_ok g3)) fun _ _ _ h => inc_get g2 (lT_lE (fun _ => trivial) h)⟩
    · exact cCmp_ok a hf
  · exact cCmp_ok a hf
end
end Fi
/-! From the program's text to the core: calls. -/
namespace Fi
open PySem PySem.Spec PyProof.Rows L2
def kwNames : List Keyword → Option (List Str)
  | [] => some []
  | k :: r => match k.arg, kwNames r with
    | some n, some l => some (n :: l)
    | _, _ => none
def findKw : List (Nat × Nat × List Str × List Nat) → Nat → Nat → List Str → Option (List Nat)
  | [], _, _, _ => none
  | p :: r, g, m, ks => if p.1 = g ∧ p.2.1 = m ∧ p.2.2.1 = ks then some p.2.2.2 else findKw r g m ks
theorem findKw_ok : ∀ {l : List (Nat × Nat × List Str × List Nat)} {g m : Nat} {ks : List Str} {pm : List Nat}, findKw l g m ks = some pm → (g, m, ks, pm) ∈ l
  | [], _, _, _, _, h => by cases h
  | p :: r, g, m, ks, pm, h => by
    unfold findKw at h
    split at h
    · rename_i q
      cases h
      obtain ⟨a, b, c, d⟩ := p
      obtain ⟨q1, q2, q3⟩ := q
      have q1 : a = g := q1
      have q2 : b = m := q2
      have q3 : c = ks := q3
      subst q1 q2 q3
      exact List.mem_cons_self
    · exact List.mem_cons_of_mem _ (findKw_ok h)
theorem kw_ok {pos : Pos} {env : PySem.Env} : ∀ {ks : List Keyword} {l : List Str}, kwNames ks = some l → (backToKw pos (keywordEach ks env)).all (·.1.isSome) = true ∧ (backToKw pos (keywordEach ks env)).filterMap (·.1) = l ∧ (backToKw pos (keywordEach ks env)).any (·.1.isNone) = false
  | [], l, h => by cases h; exact ⟨rfl, rfl, rfl⟩
  | ⟨nm, e, p⟩ :: r, l, h => by
    unfold kwNames at h
    cases nm with
    | none => cases h
    | some n =>
      cases q : kwNames r with
      | none => simp only [q] at h; cases h
      | some l2 =>
        simp only [q] at h
        cases h
        obtain ⟨h1, h2, h3⟩ := kw_ok (pos := pos) (env := env) q
        refine ⟨h1, ?_, h3⟩
        show n :: (backToKw pos (keywordEach r env)).filterMap (·.1) = n :: l2
        rw [h2]
def flagsOf (tb : Tb) (g : Nat) : List Bool := match tb.fns[g]? with
  | some p => p.2
  | none => []
def cIsi (f : Expr → CE) (sc : Scope) (args : List Expr) : CE := match args with
  | [a, .Name t _] => (match tyOf t with
    | some T => if (okN t && isGl sc t && plain a) = true then .isi (f a) [T] else .nve
    | none => .nve)
  | _ => .nve
/-- len(set(x)) -/
def setOf (sc : Scope) (x : Str) (args : List Expr) : Option Expr := match args with
  | [.Call (.Name s _) [y] [] _] => if (decide (x = ("len" : Str)) && decide (s = ("set" : Str)) && isGl sc s && plain y) = true then some y else none
  | _ => none
def cFn (f : Md → Expr → CE) (tb : Tb) (sc : Scope) (x : Str) (args : List Expr) : CE := match fnIx tb.fns x with
  | some g => .call g (cvf f (flagsOf tb g) args)
  | none => if x = ("isinstance" : Str) then cIsi (f .look) sc args else (match setOf sc x args with
    | some y => .bi .lenset (.cons (f .look y) .nil)
    | none => (match biOf x args.length with
    | some b => (match args with
      | [] => .nve
      | _ => .bi b (cvs (f .look) args))
    | none => .nve))
def cCall0 (f : Md → Expr → CE) (tb : Tb) (N : List Str) (sc : Scope) (x : Str) (args : List Expr) : CE := match slot N sc x with
  | some i => (match args with
    | [] => .nve
    | _ => .calv i (cvs (f .keep) args))
  | none => if isGl sc x = true then cFn f tb sc x args else .nve
def cCallK (f : Md → Expr → CE) (tb : Tb) (sc : Scope) (x : Str) (args : List Expr) (kws : List Keyword) : CE := if isGl sc x = true then (match fnIx tb.fns x, kwNames kws with
    | some g, some ks => (match findKw tb.kws g args.length ks with
      | some pm => if args.length + kws.length = pm.length then .callk g pm (catE (cvs (f .keep) args) (cvk (f .keep) kws)) else .nve
      | none => .nve)
    | _, _ => .nve) else .nve
def cCall (f : Md → Expr → CE) (tb : Tb) (N : List Str) (sc : Scope) (x : Str) (args : List Expr) (kws : List Keyword) : CE := if (okN x && args.all plain) = true then (match kws with
    | [] => cCall0 f tb N sc x args
    | kws => cCallK f tb sc x args kws) else .nve
def cMeth (f : Md → Expr → CE) (N : List Str) (sc : Scope) (o : Expr) (nm : Str) (ap : Pos) (args : List Expr) (cp : Pos) : CE := if (args.all plain && noCall o && (ap.endLine == cp.line) && decide (args.length < 30)) = true then (match muOf nm args.length, cPath (f .look) N sc depthP o with
    | some m, some p => .mu m p.1 p.2 (cvs (f .keep) args)
    | _, _ => (match meOf nm with
      | some m => .me m (f .look o) (cvs (f .look) args)
      | none => .nve)) else .nve
section
variable {X : Cx} {S : Sur} {tb : Tb} {lvl : Nat} {N : List Str} {sc : Scope} {pos p : Pos}
theorem cIsi_ok (a : At X S tb lvl N sc) {f : Expr → CE} (hf : OkE X S f) {args : List Expr} (hg : isGl sc ("isinstance" : Str) = true) : PE X (.Call (.Name "isinstance" p) args [] pos) (lE S (cIsi f sc args)) := by
  unfold cIsi
  split
  · rename_i x t tp
    split
    · rename_i T hT
      split
      · rename_i hc
        have h1 := (qt2 (qt2 hc).1).1
        have h2 := (qt2 (qt2 hc).1).2
        obtain ⟨d1, d2, d3⟩ := okN_ok h1
        have key : t ∈ freeN ∧ bootBuiltins t = some (.type T) := by
          unfold tyOf at hT
          split at hT
          · rename_i q; cases hT; rw [q]; exact ⟨by decide, by decide +kernel⟩
          · split at hT
            · rename_i q; cases hT; rw [q]; exact ⟨by decide, by decide +kernel⟩
            · split at hT
              · rename_i q; cases hT; rw [q]; exact ⟨by decide, by decide +kernel⟩
              · split at hT
                · rename_i q; cases hT; rw [q]; exact ⟨by decide, by decide +kernel⟩
                · split at hT
                  · rename_i q; cases hT; rw [q]; exact ⟨by decide, by decide +kernel⟩
                  · split at hT
                    · rename_i q; cases hT; rw [q]; exact ⟨by decide, by decide +kernel⟩
                    · cases hT
        have ht : PE X (.Name t tp) (tC (.ty T)) := pe_bltn (a.gl h2) (a.fre t key.1) key.2 rfl d3 d1
        exact s_isi (hf x) ht a.K (a.gl hg) (a.fre _ (by decide)) (star_ok (qt2 hc).2) (star_ok rfl) (back_ok (es := [.Name t tp]) rfl)
      · exact s_nve
    · exact s_nve
  · exact s_nve
theorem lenAr (a : At X S tb lvl N sc) {g : Nat} {fl : List Bool} {x : Str} (h : tb.fns[g]? = some (x, fl)) : ∀ us, S.F g us ≠ .no → us.length = fl.length := fun us hu => by
  obtain ⟨x2, fl2, h2, h3⟩ := a.ar g us hu
  rw [h] at h2
  cases h2
  exact h3
theorem cFn_ok (a : At X S tb lvl N sc) {f : Md → Expr → CE} (hf : ∀ m, m ≠ .test → OkE X S (f m)) {x : Str} {args : List Expr} (hx : okN x = true) (hg : isGl sc x = true) (hp : args.all plain = true) : PE X (.Call (.Name x p) args [] pos) (lE S (cFn f tb sc x args)) := by
  obtain ⟨d1, d2, d3⟩ := okN_ok hx
  unfold cFn
  split
  · rename_i g hgi
    obtain ⟨fl, hfl⟩ := fnIx_ok hgi
    obtain ⟨m, k⟩ := a.fn g x fl hfl
    cases args with
    | nil =>
      have : cvf f (flagsOf tb g) [] = .nil := by cases flagsOf tb g <;> rfl
      rw [this]
      exact s_call0 k a.rm a.gd (a.gl hg) m a.tk (lenAr a hfl) d1
    | cons e r =>
      have hp2 := hp
      rw [List.all_cons, Bool.and_eq_true] at hp2
      exact s_call k a.rm a.gd (a.gl hg) m a.tk (cvf_ok hf hp) (lenAr a hfl) d1 (star_ok hp2.1) (back_ok hp2.2)
  · split
    · rename_i hi
      subst hi
      exact cIsi_ok a (hf .look (by decide)) hg
    · split
      · rename_i y hy
        unfold setOf at hy
        split at hy
        · split at hy
          · rename_i hc
            cases hy
            have h1 : x = ("len" : Str) := of_decide_eq_true (qt2 (qt2 (qt2 hc).1).1).1
            have h2 := of_decide_eq_true (qt2 (qt2 (qt2 hc).1).1).2
            have h3 := (qt2 (qt2 hc).1).2
            have h4 := (qt2 hc).2
            subst h1
            subst h2
            exact s_lenset a.K (a.gl hg) (a.fre _ (by decide)) (a.gl h3) (a.fre _ (by decide)) (hf .look (by decide) _) a.calm (star_ok h4)
          · cases hy
        · cases hy
      split
      · rename_i b hb
        split
        · exact s_nve
        · rename_i hne
          cases args with
          | nil => exact absurd rfl hne
          | cons e r =>
            have hp2 := hp
            rw [List.all_cons, Bool.and_eq_true] at hp2
            obtain ⟨b1, b2, b3, b4⟩ := bi_ok a hb
            rcases b4 with ⟨id, rr, e1, e2, e3⟩ | ⟨T, rr, e1, e2, e3⟩
            · exact s_cb e2 e3 (a.gl hg) (a.fre x b1) e1 (cvs_ok (hf .look (by decide)) hp) b2 b3 (star_ok hp2.1) (back_ok hp2.2)
            · exact s_ct e2 e3 (a.gl hg) (a.fre x b1) e1 (cvs_ok (hf .look (by decide)) hp) b2 b3 (star_ok hp2.1) (back_ok hp2.2)
      · exact s_nve
theorem cvs_len {f : Expr → CE} : ∀ {es : List Expr}, (cvs f es).len = es.length
  | [] => rfl
  | e :: r => by show (cvs f r).len + 1 = _; rw [cvs_len]; rfl
theorem cvk_len {f : Expr → CE} : ∀ {es : List Keyword}, (cvk f es).len = es.length
  | [] => rfl
  | e :: r => by show (cvk f r).len + 1 = _; rw [cvk_len]; rfl
theorem cCall0_ok (a : At X S tb lvl N sc) {f : Md → Expr → CE} (hf : ∀ m, m ≠ .test → OkE X S (f m)) {x : Str} {args : List Expr} (hx : okN x = true) (hp : args.all plain = true) : PE X (.Call (.Name x p) args [] pos) (lE S (cCall0 f tb N sc x args)) := by
  obtain ⟨d1, d2, d3⟩ := okN_ok hx
  unfold cCall0
  split
  · rename_i i hi
    obtain ⟨h1, h2, h3⟩ := slot_ok hi
    split
    · exact s_nve
    · rename_i hne
      cases args with
      | nil => exact absurd rfl hne
      | cons e r =>
        have hp2 := hp
        rw [List.all_cons, Bool.and_eq_true] at hp2
        refine s_calv (m := tb.fns.length) (ar := fun g => (flagsOf tb g).length) (fun g hg => ?_) (fun g us hu => ?_) a.rm a.gd (by rw [a.n]; exact h3) (a.vis h2) a.tk (cvs_ok (hf .keep (by decide)) hp) d1 d2 (star_ok hp2.1) (back_ok hp2.2)
        · have : tb.fns[g]? = some (tb.fns[g].1, tb.fns[g].2) := List.getElem?_eq_getElem hg
          have hk := (a.fn g _ _ this).2
          have e1 : flagsOf tb g = tb.fns[g].2 := by unfold flagsOf; rw [this]
          show Kept X S lvl g (flagsOf tb g).length
          rw [e1]; exact hk
        · obtain ⟨x2, fl, e1, e2⟩ := a.ar g us hu
          refine ⟨(List.getElem?_eq_some_iff.mp e1).1, ?_⟩
          show us.length = (flagsOf tb g).length
          unfold flagsOf
          rw [e1]; exact e2
  · split
    · rename_i hg
      exact cFn_ok a hf hx hg hp
    · exact s_nve
theorem cCallK_ok (a : At X S tb lvl N sc) {f : Md → Expr → CE} (hf : ∀ m, m ≠ .test → OkE X S (f m)) {x : Str} {args : List Expr} {kws : List Keyword} (hx : okN x = true) (hp : args.all plain = true) : PE X (.Call (.Name x p) args kws pos) (lE S (cCallK f tb sc x args kws)) := by
  obtain ⟨d1, d2, d3⟩ := okN_ok hx
  unfold cCallK
  split
  · rename_i hg
    split
    · rename_i g ks h1 h2
      split
      · rename_i pm h3
        split
        · rename_i h4
          obtain ⟨fl, hfl⟩ := fnIx_ok h1
          obtain ⟨m, _⟩ := a.fn g x fl hfl
          obtain ⟨x2, fl2, e1, k⟩ := a.kw g args.length ks pm (findKw_ok h3)
          rw [hfl] at e1
          cases e1
          obtain ⟨w1, w2, w3⟩ := kw_ok (pos := pos) (env := X.env) h2
          refine s_callk k a.rm a.gd (a.gl hg) m a.tk (lenAr a hfl) cvs_len (by rw [cvs_len, cvk_len]; exact h4) (cvs_ok (hf .keep (by decide)) hp) (cvk_ok (hf .keep (by decide))) ?_ w1 w2 d1 ?_
          · cases args with
            | nil => exact .inl ⟨rfl, rfl⟩
            | cons e r =>
              rw [List.all_cons, Bool.and_eq_true] at hp
              exact .inr ⟨e, r, rfl, star_ok hp.1⟩
          · rw [back_ok hp, w3]; rfl
        · exact s_nve
      · exact s_nve
    · exact s_nve
  · exact s_nve
theorem cCall_ok (a : At X S tb lvl N sc) {f : Md → Expr → CE} (hf : ∀ m, m ≠ .test → OkE X S (f m)) {x : Str} {args : List Expr} {kws : List Keyword} : PE X (.Call (.Name x p) args kws pos) (lE S (cCall f tb N sc x args kws)) := by
  unfold cCall
  split
  · rename_i hc
    split
    · exact cCall0_ok a hf (qt2 hc).1 (qt2 hc).2
    · exact cCallK_ok a hf (qt2 hc).1 (qt2 hc).2
  · exact s_nve
theorem cMeth_ok (a : At X S tb lvl N sc) {f : Md → Expr → CE} (hf : ∀ m, m ≠ .test → OkE X S (f m)) {o : Expr} {nm : Str} {ap : Pos} {args : List Expr} : PE X (.Call (.Attribute o nm ap) args [] pos) (lE S (cMeth f N sc o nm ap args pos)) := by
  unfold cMeth
  split
  · rename_i hc
    have hp := (qt2 (qt2 (qt2 hc).1).1).1
    have hn := base_ok (nm := nm) (env := X.env) (qt2 (qt2 (qt2 hc).1).1).2
    have hl := (qt2 (qt2 hc).1).2
    have h30 : args.length < 30 := of_decide_eq_true (qt2 hc).2
    split
    · rename_i m p2 h1 h2
      obtain ⟨id, r, m1, m2, m3, m4⟩ := mu_ok (S := S) (X := X) h1
      cases args with
      | nil => exact s_mu0 a.K m4 m1 m2 m3 (cPath_ok a (hf .look (by decide)) h2) hn hl
      | cons e r =>
        have hp2 := hp
        rw [List.all_cons, Bool.and_eq_true] at hp2
        refine s_mu a.K m4 m1 m2 m3 (cPath_ok a (hf .look (by decide)) h2) (cvs_ok (hf .keep (by decide)) hp) hn ?_ hl (star_ok hp2.1) (back_ok hp2.2)
        rw [backAll_ok hp, show backToKw pos (keywordEach [] X.env) = [] from rfl]
        simpa using h30
    · split
      · rename_i m hm
        obtain ⟨ty, id, r, m1, m2, m3, m4, m5, m6⟩ := me_ok a hm
        cases args with
        | nil => exact s_me0 a.K m5 m6 m1 m2 m3 m4 (hf .look (by decide) o) hn hl
        | cons e r =>
          have hp2 := hp
          rw [List.all_cons, Bool.and_eq_true] at hp2
          refine s_me a.K m5 m6 m1 m2 m3 m4 (hf .look (by decide) o) (cvs_ok (hf .look (by decide)) hp) hn ?_ hl (star_ok hp2.1) (back_ok hp2.2)
          rw [backAll_ok hp, show backToKw pos (keywordEach [] X.env) = [] from rfl]
          simpa using h30
      · exact s_nve
  · exact s_nve
end
end Fi
/-! Walks over pairs; targets; comprehensions. -/
namespace Fi
open PySem PySem.Spec PyProof.Rows L2 RZ
section
variable {S : Sur} {H H' : Hp} {T : List (U × V)} {e : Env} {σ : L2.St} {u : U} {v : V} {xs ys : List PyData}
theorem zipD_get {i : Nat} {x y : PyData} (hx : xs[i]? = some x) (hy : ys[i]? = some y) : (zipD xs ys)[i]? = some (.tuple [x, y]) := by
  unfold zipD
  rw [List.getElem?_map, show (xs.zip ys)[i]? = some (x, y) from by rw [List.getElem?_zip_eq_some]; exact ⟨hx, hy⟩]
  rfl
theorem zipD_len : (zipD xs ys).length = min xs.length ys.length := by unfold zipD; simp
abbrev sK (S : Sur) (pv : List (Nat × V)) : Sur := ⟨S.K, fun _ => none, S.fa, pv, fun _ _ => .no, fun _ _ _ _ => False⟩
/-- a new pair -/
theorem pair_fr {pv : List (Nat × V)} {x y : PyData} {w z : V} {p : Addr} (f : Frm S.K S.fa pv H ((.d x, w) :: (.d y, z) :: T) e σ) (hp : H p = none) : Frm S.K S.fa pv (upd H p (.tup [w, z])) ((.d (.tuple [x, y]), .ref p) :: T) e σ :=
  Frm.one (T1 := [(.d x, w), (.d y, z)]) f (fun L r => Rel.newT (us := [.d x, .d y]) (vs := [w, z]) r rfl rfl hp) rfl
theorem its_zipT {a b : Addr} : ItS S (ItzT S.K a b) (zipD xs ys) [(.d (.tuple xs), .ref a), (.d (.tuple ys), .ref b)] := by
  have at_ : ∀ {pv : List (Nat × V)} {H : Hp} {T : List (U × V)} {e : Env} {σ : L2.St}, Frm S.K S.fa pv H ([(.d (.tuple xs), .ref a), (.d (.tuple ys), .ref b)] ++ T) e σ → ∃ vs ws, SqT S.K H a vs ∧ SqT S.K H b ws ∧ vs.length = xs.length ∧ ws.length = ys.length ∧ ∀ i x y w z, xs[i]? = some x → ys[i]? = some y → (∀ l, SqT S.K H a l → l[i]? = some w) → (∀ l, SqT S.K H b l → l[i]? = some z) → Frm S.K S.fa pv H ((.d x, w) :: (.d y, z) :: ([(.d (.tuple xs), .ref a), (.d (.tuple ys), .ref b)] ++ T)) e σ := fun {pv H T e σ} f => by
    have f2 : (sK S pv).fr H ((.d (.tuple ys), .ref b) :: ([(.d (.tuple xs), .ref a), (.d (.tuple ys), .ref b)] ++ T)) e σ := (Frm.dup (Frm.swap f) trivial).perm (.cons _ (.swap _ _ _))
    obtain ⟨b', ws, e1, h1, l1, g⟩ := tvE (S := sK S pv) f2
    cases e1
    have f3 : (sK S pv).fr H ((.d (.tuple xs), .ref a) :: ([(.d (.tuple xs), .ref a), (.d (.tuple ys), .ref b)] ++ T)) e σ := Frm.dup f trivial
    obtain ⟨a', vs, e2, h2, l2, g2⟩ := tvE (S := sK S pv) f3
    cases e2
    refine ⟨vs, ws, h2, h1, l2, l1, fun i x y w z hx hy hw hz => ?_⟩
    have d := FD.of (S := sK S pv) g l1
    have f4 : (sK S pv).fr H ((.d y, z) :: ([(.d (.tuple xs), .ref a), (.d (.tuple ys), .ref b)] ++ T)) e σ := d.item hy (hz _ h1)
    have f5 : (sK S pv).fr H ((.d (.tuple xs), .ref a) :: ((.d (.tuple xs), .ref a) :: (.d y, z) :: ((.d (.tuple ys), .ref b) :: T))) e σ := Frm.dup (f4.perm (.swap _ _ _)) trivial
    obtain ⟨a2, vs2, e3, h3, l3, g3⟩ := tvE (S := sK S pv) f5
    cases e3
    have f6 : (sK S pv).fr H ((.d x, w) :: ((.d (.tuple xs), .ref a) :: (.d y, z) :: ((.d (.tuple ys), .ref b) :: T))) e σ := (FD.of (S := sK S pv) g3 l3).item hx (hw _ h3)
    exact f6.perm (.cons _ (.swap _ _ _))
  refine ⟨fun {W pv H T e σ i} f hi => ?_, fun {pv H T e σ i} f hi => ?_, fun {pv H H' T e σ i v} f hi ⟨p, w, z, e1, hp, e2, h1, h2⟩ => ?_, fun i v m => by simp at m⟩
  · obtain ⟨vs, ws, h1, h2, l1, l2, _⟩ := at_ f
    rw [zipD_len] at hi
    exact ⟨vs, ws, vs[i]'(by omega), ws[i]'(by omega), h1, h2, List.getElem?_eq_getElem _, List.getElem?_eq_getElem _⟩
  · obtain ⟨vs, ws, h1, h2, l1, l2, _⟩ := at_ f
    rw [zipD_len] at hi
    exact ⟨vs, ws, h1, h2, by omega⟩
  · subst e1 e2
    obtain ⟨vs, ws, g1, g2, l1, l2, k⟩ := at_ f
    rw [zipD_len] at hi
    have hx : xs[i]? = some (xs[i]'(by omega)) := List.getElem?_eq_getElem _
    have hy : ys[i]? = some (ys[i]'(by omega)) := List.getElem?_eq_getElem _
    exact ⟨_, zipD_get hx hy, pair_fr (k i _ _ w z hx hy h1 h2) hp⟩
theorem its_zipL {a b : Addr} : ItS S (Itz S.K a b) (zipD xs ys) [(.d (.list xs), .ref a), (.d (.list ys), .ref b)] := by
  have at_ : ∀ {pv : List (Nat × V)} {H : Hp} {T : List (U × V)} {e : Env} {σ : L2.St}, Frm S.K S.fa pv H ([(.d (.list xs), .ref a), (.d (.list ys), .ref b)] ++ T) e σ → ∃ vs ws, SqL S.K H a vs ∧ SqL S.K H b ws ∧ vs.length = xs.length ∧ ws.length = ys.length ∧ ∀ i x y w z, xs[i]? = some x → ys[i]? = some y → (∀ l, SqL S.K H a l → l[i]? = some w) → (∀ l, SqL S.K H b l → l[i]? = some z) → Frm S.K S.fa pv H ((.d x, w) :: (.d y, z) :: ([(.d (.list xs), .ref a), (.d (.list ys), .ref b)] ++ T)) e σ := fun {pv H T e σ} f => by
    have f2 : (sK S pv).fr H ((.d (.list ys), .ref b) :: ([(.d (.list xs), .ref a), (.d (.list ys), .ref b)] ++ T)) e σ := (Frm.dup (Frm.swap f) trivial).perm (.cons _ (.swap _ _ _))
    obtain ⟨b', ws, e1, h1, l1, g⟩ := lvE (S := sK S pv) f2 (xs := ys) rfl
    cases e1
    have f3 : (sK S pv).fr H ((.d (.list xs), .ref a) :: ([(.d (.list xs), .ref a), (.d (.list ys), .ref b)] ++ T)) e σ := Frm.dup f trivial
    obtain ⟨a', vs, e2, h2, l2, g2⟩ := lvE (S := sK S pv) f3 (xs := xs) rfl
    cases e2
    refine ⟨vs, ws, SqL.of h2, SqL.of h1, l2, l1, fun i x y w z hx hy hw hz => ?_⟩
    have d := FD.of (S := sK S pv) g l1
    have f4 : (sK S pv).fr H ((.d y, z) :: ([(.d (.list xs), .ref a), (.d (.list ys), .ref b)] ++ T)) e σ := d.item hy (hz _ (SqL.of h1))
    have f5 : (sK S pv).fr H ((.d (.list xs), .ref a) :: ((.d (.list xs), .ref a) :: (.d y, z) :: ((.d (.list ys), .ref b) :: T))) e σ := Frm.dup (f4.perm (.swap _ _ _)) trivial
    obtain ⟨a2, vs2, e3, h3, l3, g3⟩ := lvE (S := sK S pv) f5 (xs := xs) rfl
    cases e3
    have f6 : (sK S pv).fr H ((.d x, w) :: ((.d (.list xs), .ref a) :: (.d y, z) :: ((.d (.list ys), .ref b) :: T))) e σ := (FD.of (S := sK S pv) g3 l3).item hx (hw _ (SqL.of h3))
    exact f6.perm (.cons _ (.swap _ _ _))
  refine ⟨fun {W pv H T e σ i} f hi => ?_, fun {pv H T e σ i} f hi => ?_, fun {pv H H' T e σ i v} f hi ⟨p, w, z, e1, hp, e2, h1, h2⟩ => ?_, fun i v m => by simp at m⟩
  · obtain ⟨vs, ws, h1, h2, l1, l2, _⟩ := at_ f
    rw [zipD_len] at hi
    exact ⟨vs, ws, vs[i]'(by omega), ws[i]'(by omega), h1, h2, List.getElem?_eq_getElem _, List.getElem?_eq_getElem _⟩
  · obtain ⟨vs, ws, h1, h2, l1, l2, _⟩ := at_ f
    rw [zipD_len] at hi
    exact ⟨vs, ws, h1, h2, by omega⟩
  · subst e1 e2
    obtain ⟨vs, ws, g1, g2, l1, l2, k⟩ := at_ f
    rw [zipD_len] at hi
    have hx : xs[i]? = some (xs[i]'(by omega)) := List.getElem?_eq_getElem _
    have hy : ys[i]? = some (ys[i]'(by omega)) := List.getElem?_eq_getElem _
    exact ⟨_, zipD_get hx hy, pair_fr (k i _ _ w z hx hy h1 h2) hp⟩
variable {X : Cx} {a b : Expr} {ca cb : CE} {elts : List Expr} {kk : Nat} {p pos tpos : Pos}
theorem i_zip (hK : X.K = S.K) (hg : Gl X "zip") (hm : X.mg "zip" = none) (ha : PA X [a, b] (lA S (.cons ca (.cons cb .nil)))) (hs : starEach [a, b] X.env = (false, eval a X.env) :: starEach [b] X.env) (hpl : (backTo pos (starEach [b] X.env)).any (·.1) = false) : PI X (.Tuple elts kk tpos) (.Call (.Name "zip" p) [a, b] [] pos) (lI S (.zip ca cb)) := imp_i (pi_zipA hg hm ha hs hpl) fun σ H R ⟨T, e, f, h⟩ => by
  rw [evi] at h
  refine ⟨T, e, f, ?_⟩
  rw [evs]
  refine out_bd.mpr (out_mono (out_bd.mp h) (fun x e1 h1 => ?_) fun _ _ z => z)
  rw [evs]
  refine out_bd.mpr (out_bd.mpr (out_mono (out_bd.mp h1) (fun y e2 h2 => ?_) fun _ _ z => z))
  rw [evs]
  refine fun vs H1 l f1 s1 => ?_
  match vs, l with
  | [v1, v2], _ =>
    have f1 : S.fr H1 ((x, v1) :: (y, v2) :: T) e2 σ := f1
    obtain ⟨xs, ez, k⟩ := out_lift h2
    rw [hK]
    have lst : ∀ xs ys, S.fr H1 ((.d (.list xs), v1) :: (.d (.list ys), v2) :: T) e2 σ → (∀ J H2 T1, ItS S J (zipD xs ys) T1 → S.fr H2 (T1 ++ T) e2 σ → R J H2) → iZipA S.K (fun _ H Q => Q [v1, v2] H) σ H1 R := fun xs ys f1 k => by
      obtain ⟨p, vs, rfl, h1, l1, _⟩ := lvE (f1.dup trivial) (xs := xs) rfl
      obtain ⟨q, ws, rfl, h2, l2, _⟩ := lvE (f1.swap.dup trivial) (xs := ys) rfl
      exact ⟨p, q, vs, ws, rfl, .inl ⟨SqL.of h1, SqL.of h2, k _ H1 [(.d (.list xs), .ref p), (.d (.list ys), .ref q)] its_zipL f1⟩⟩
    split at ez
    · cases ez
      obtain ⟨p, vs, rfl, h1, l1, _⟩ := tvE (f1.dup trivial)
      obtain ⟨q, ws, rfl, h2, l2, _⟩ := tvE (f1.swap.dup trivial)
      exact ⟨p, q, vs, ws, rfl, .inr ⟨h1, h2, k _ H1 [(.d (.tuple _), .ref p), (.d (.tuple _), .ref q)] its_zipT f1⟩⟩
    · cases ez; exact lst _ _ f1 k
    · cases ez; exact lst _ _ f1.frz k
    · cases ez; exact lst _ _ f1.swap.frz.swap k
    · cases ez; exact lst _ _ f1.swap.frz.swap.frz k
    · cases ez
end
end Fi
/-! From the program's text to the core: targets, comprehensions, the whole. -/
namespace Fi
open PySem PySem.Spec PyProof.Rows L2 RZ
/-- the names of a block as its own frame has them -/
def rlb (scope sc : Scope) : Scope := { scope with names := scope.names.map fun (n, k) => if (k == NameKind.free && sc.kind == .function && sc.names.lookup n == some .cell) then (n, NameKind.cell) else (n, k) }
def isLoc (top : Bool) (sc : Scope) (x : Str) : Bool := match sc.names.lookup x with
  | some .local => true
  | some .cell => top
  | _ => false
mutual
def cTgt (top : Bool) (N : List Str) (sc : Scope) : Nat → Expr → Option CT
  | 0, _ => none
  | n + 1, e => match e with
    | .Name x _ => if isLoc top sc x = true then (slot N sc x).map .name else none
    | .Tuple es _ _ => if es.all plain = true then (cTgts top N sc n es).map .tup else none
    | _ => none
def cTgts (top : Bool) (N : List Str) (sc : Scope) : Nat → List Expr → Option (List CT)
  | 0, _ => none
  | _ + 1, [] => some []
  | n + 1, e :: r => match cTgt top N sc n e, cTgts top N sc n r with
    | some t, some ts => some (t :: ts)
    | _, _ => none
end
def depthT : Nat := 12
def cIter (f : Md → Expr → CE) (sc : Scope) (tg e : Expr) : Option CI := match e with
  | .Call (.Name x _) args [] _ => if x = ("range" : Str) then (if (isGl sc x && args.all plain && (args.length == 1 || args.length == 2)) = true then some (.rng (cvs (f .look) args)) else none)
    else if x = ("zip" : Str) then (match args, tg with
      | [a, b], .Tuple _ _ _ => if (isGl sc x && plain a && plain b) = true then some (.zip (f .keep a) (f .keep b)) else none
      | _, _ => none)
    else if x = ("enumerate" : Str) then none else some (.seq (f .keep e))
  | e => some (.seq (f .keep e))
def ownOf (N : List Str) (scope : Scope) : List (Str × Nat) := scope.names.filterMap fun p => match p.2 with
  | .local => (idx N p.1).map fun i => (p.1, i)
  | .cell => (idx N p.1).map fun i => (p.1, i)
  | _ => none
def cIfs (f : Md → Expr → CE) : List Expr → Option CEs
  | [] => some .nil
  | [e] => some (.cons (f .test e) .nil)
  | _ => none
def cLc (f : Scope → Md → Expr → CE) (N : List Str) (sc : Scope) (elt : Expr) (gens : List Comprehension) (scope : Scope) : CE := match gens with
  | [⟨tg, iter, ifs, a⟩] => (match cTgt false N (rlb scope sc) depthT tg, cIfs (f (rlb scope sc)) ifs, cIter (f sc) sc tg iter with
    | some t, some cs, some it => if (decide (a = 0) && blkC N sc scope (ownOf N scope) && (t.is.all fun i => decide (i ∈ (ownOf N scope).map (·.2))) && noSet iter) = true then .lc (f (rlb scope sc) .keep elt) t it cs ((ownOf N scope).map (·.2)) else .nve
    | _, _, _ => .nve)
  | _ => .nve
def cDicP (f : Md → Expr → CE) : List (Option Expr) → List Expr → Option CEs
  | [], [] => some .nil
  | some k :: ks, v :: vs => (cDicP f ks vs).map fun r => .cons (f .look k) (.cons (f .keep v) r)
  | _, _ => none
def cDic (f : Md → Expr → CE) (ks : List (Option Expr)) (vs : List Expr) : CE := if ks.length ≤ 15 then (match cDicP f ks vs with
  | some ps => .dic ps
  | none => .nve) else .nve
def tmd (md : Md) : Md := if md = .test then .test else .look
def step (tb : Tb) (N : List Str) (f : Scope → Md → Expr → CE) (sc : Scope) (md : Md) (e : Expr) : CE := match e with
  | .Name x _ => cName tb N sc md x
  | .Constant c _ _ => cConst c
  | .BinOp a op b _ => (match cBop op with
    | some o => .bin o (f sc .soft a) (f sc .soft b)
    | none => .nve)
  | .UnaryOp op a _ => (match op with
    | .USub => .neg (f sc .look a)
    | .Not => .nt (f sc (tmd md) a)
    | _ => .nve)
  | .BoolOp op es _ => (match op with
    | .And => seqB .an (es.map (f sc (tmd md)))
    | .Or => seqB .orr (es.map (f sc (tmd md))))
  | .IfExp t a b _ => if md = .test then .nve else .ife (f sc .test t) (f sc md a) (f sc md b)
  | .Tuple es _ _ => if es.all plain = true then .tup (cvs (f sc .keep) es) else .nve
  | .List es _ => if es.all plain = true then .lst (cvs (f sc .move) es) else .nve
  | .Dict ks vs _ => cDic (f sc) ks vs
  | .Subscript a b _ => cSubD tb N sc (f sc .look) a b
  | .Compare a ops bs _ => cCmpD tb N sc (f sc .look) ops a bs
  | .Call fn args kws pos => (match fn with
    | .Name x _ => cCall (f sc) tb N sc x args kws
    | .Attribute o nm ap => (match kws with
      | [] => cMeth (f sc) N sc o nm ap args pos
      | _ => .nve)
    | _ => .nve)
  | .ListComp elt gens scope _ => cLc f N sc elt gens scope
  | _ => .nve
def conv (tb : Tb) (N : List Str) : Nat → Scope → Md → Expr → CE
  | 0, _, _, _ => .nve
  | n + 1, sc, md, e => step tb N (conv tb N n) sc md e
section
variable {X : Cx} {S : Sur} {tb : Tb} {lvl : Nat} {N : List Str} {sc scope : Scope} {pos p : Pos}
theorem At.blk (a : At X S tb lvl N sc) (s : Shared) (H : Hp) (C : Addr) (cl : List (Str × Addr)) (fp : List Addr) : At (X.blk s H scope (compEnvC scope cl C X.env) fp) S.inn tb lvl N (rlb scope sc) where
  n := a.n
  nd := a.nd
  sc := by rw [← a.sc]; rfl
  K := a.K
  calm := a.calm
  gd := a.gd
  rm := a.rm
  hi := a.hi
  tk := fun _ _ ⟨_, _, _, _, _, _, _, _, _, _, _, _, _, _, _, _, w⟩ => w.elim
  sys := a.sys
  fn := fun g x fl h => ⟨(a.fn g x fl h).1, ⟨(a.fn g x fl h).2.ex, (a.fn g x fl h).2.kp⟩⟩
  ar := a.ar
  cst := a.cst
  kw := fun g m ks pm h => by
    obtain ⟨x, fl, h1, h2⟩ := a.kw g m ks pm h
    exact ⟨x, fl, h1, ⟨h2.ex, h2.kp, h2.pm⟩⟩
  fre := a.fre
  dct := a.dct
theorem isLoc_ok {top : Bool} {x : Str} (h : isLoc top sc x = true) : sc.names.lookup x = some .local ∨ (sc.names.lookup x = some .cell ∧ top = true) := by
  unfold isLoc at h
  split at h
  · exact .inl ‹_›
  · exact .inr ⟨‹_›, h⟩
  · cases h
theorem assignEach_len {env : PySem.Env} : ∀ {es : List Expr}, (assignEach es env).length = es.length
  | [] => rfl
  | e :: r => by
    have : (assignEach (e :: r) env).length = (assignEach r env).length + 1 := by cases e <;> rfl
    rw [this, assignEach_len]; rfl
theorem assignEach_star {env : PySem.Env} : ∀ {es : List Expr}, es.all plain = true → (assignEach es env).findIdx? (·.1) = none
  | [], _ => rfl
  | e :: r, h => by
    rw [List.all_cons, Bool.and_eq_true] at h
    have : assignEach (e :: r) env = (false, assign e env) :: assignEach r env := by
      have := h.1
      cases e <;> first | rfl | cases this
    rw [this, List.findIdx?_cons, assignEach_star h.2]
    rfl
mutual
theorem cTgt_ok {top : Bool} (a : At X S tb lvl N sc) (ht : top = true → ∀ x, X.fn x = true) : ∀ {n : Nat} {e : Expr} {t : CT}, cTgt top N sc n e = some t → PG X e (lG S t)
  | 0, e, t, h => by unfold cTgt at h; cases h
  | n + 1, e, t, h => by
    unfold cTgt at h
    split at h
    · rename_i x pos
      split at h
      · rename_i hl
        obtain ⟨i, hi, he⟩ := ofn h
        subst he
        obtain ⟨h1, h2, h3⟩ := slot_ok hi
        have hL := isLoc_ok hl
        rcases hL with hL | ⟨hL, ht2⟩
        · exact g_name (pg_name (by rw [a.n]; exact a.nd) (by rw [a.n]; exact h3) (by rw [a.sc]; exact .inl hL) (.inr (by rw [a.sc]; exact hL)))
        · exact g_name (pg_name (by rw [a.n]; exact a.nd) (by rw [a.n]; exact h3) (by rw [a.sc]; exact .inr hL) (.inl (ht ht2 x)))
      · cases h
    · rename_i es k pos
      split at h
      · rename_i hp
        obtain ⟨ts, hts, he⟩ := ofn h
        subst he
        obtain ⟨h1, h2⟩ := cTgts_ok a ht hp hts
        exact g_tup a.K a.calm h1 (by rw [assignEach_len, h2]) (assignEach_star hp)
      · cases h
    · cases h
theorem cTgts_ok {top : Bool} (a : At X S tb lvl N sc) (ht : top = true → ∀ x, X.fn x = true) : ∀ {n : Nat} {es : List Expr} {ts : List CT}, es.all plain = true → cTgts top N sc n es = some ts → PGs X es (lGs S ts) ∧ es.length = ts.length
  | 0, es, t, _, h => by unfold cTgts at h; cases h
  | n + 1, [], t, _, h => by
    unfold cTgts at h
    cases h
    exact ⟨g_nil, rfl⟩
  | n + 1, e :: r, t, hp, h => by
    unfold cTgts at h
    rw [List.all_cons, Bool.and_eq_true] at hp
    split at h
    · rename_i t1 ts h1 h2
      cases h
      obtain ⟨g1, g2⟩ := cTgts_ok a ht hp.2 h2
      refine ⟨g_cons (cTgt_ok a ht h1) g1 ?_, by simp [g2]⟩
      have := hp.1
      cases e <;> first | rfl | cases this
    · cases h
end
end
end Fi
/-! Expressions: the conversion is sound. -/
namespace Fi
open PySem PySem.Spec PyProof.Rows L2 RZ
def OkF (tb : Tb) (N : List Str) (lvl : Nat) (f : Scope → Md → Expr → CE) : Prop := ∀ X S sc, At X S tb lvl N sc → (∀ md, md ≠ .test → OkE X S (f sc md)) ∧ ∀ e, PT X e (lT S (f sc .test e))
section
variable {X : Cx} {S : Sur} {tb : Tb} {lvl : Nat} {N : List Str} {sc scope : Scope} {pos p : Pos} {f : Scope → Md → Expr → CE}
theorem cIter_ok (a : At X S tb lvl N sc) {g : Md → Expr → CE} (hf : ∀ m, m ≠ .test → OkE X S (g m)) {tg e : Expr} {it : CI} (h : cIter g sc tg e = some it) : PI X tg e (lI S it) := by
  unfold cIter at h
  split at h
  · rename_i x p args pos
    split at h
    · rename_i hx
      subst hx
      obtain ⟨hc, he⟩ := oif h
      subst he
      have hg := (qt2 (qt2 hc).1).1
      have hp := (qt2 (qt2 hc).1).2
      have hl : args.length = 1 ∨ args.length = 2 := by simpa using (qt2 hc).2
      rcases args with _ | ⟨x, _ | ⟨y, _ | ⟨z, r⟩⟩⟩
      · rcases hl with hl | hl <;> cases hl
      · have hp2 := hp
        rw [List.all_cons, Bool.and_eq_true] at hp2
        exact i_rng1 (a.gl hg) (a.fre _ (by decide)) (cvs_ok (hf .look (by decide)) hp) (star_ok hp2.1) fun F e us e1 q => (evs_len q).trans cvs_len
      · have hp2 := hp
        rw [List.all_cons, Bool.and_eq_true, List.all_cons, Bool.and_eq_true] at hp2
        exact i_rng2 (a.gl hg) (a.fre _ (by decide)) (cvs_ok (hf .look (by decide)) hp) (by rw [star_ok hp2.1, star_ok hp2.2.1]; rfl) (star_ok hp2.2.1) fun F e us e1 q => (evs_len q).trans cvs_len
      · rcases hl with hl | hl
        · cases hl
        · have : r.length + 3 = 2 := hl
          omega
    · split at h
      · rename_i hx
        subst hx
        split at h
        · obtain ⟨hc, he⟩ := oif h
          subst he
          have h1 := (qt2 (qt2 hc).1).1
          have h2 := (qt2 (qt2 hc).1).2
          have h3 := (qt2 hc).2
          exact i_zip a.K (a.gl h1) (a.fre _ (by decide)) (a_cons (hf .keep (by decide) _) (a_cons (hf .keep (by decide) _) a_nil (star_ok h3)) (star_ok h2)) (star_ok h2) (back_ok (es := [_]) (by simp [h3]))
        · cases h
      · split at h
        · cases h
        · cases h
          exact i_seq a.K (hf .keep (by decide) _)
  · cases h
    exact i_seq a.K (hf .keep (by decide) _)
theorem cIfs_ok {g : Md → Expr → CE} (hf : ∀ e, PT X e (lT S (g .test e))) {es : List Expr} {cs : CEs} (h : cIfs g es = some cs) : PTs X es (lTs S cs) := by
  unfold cIfs at h
  split at h
  · cases h; exact t_nil
  · cases h; exact t_one (hf _)
  · cases h
theorem cLc_ok (a : At X S tb lvl N sc) (hf : OkF tb N lvl f) {elt : Expr} {gens : List Comprehension} : PE X (.ListComp elt gens scope pos) (lE S (cLc f N sc elt gens scope)) := by
  unfold cLc
  split
  · rename_i tg iter ifs as
    split
    · rename_i t cs it h1 h2 h3
      split
      · rename_i hc
        have hs := (qt2 hc).2
        have hv := (qt2 (qt2 hc).1).2
        have hb := (qt2 (qt2 (qt2 hc).1).1).2
        have ha : as = 0 := of_decide_eq_true (qt2 (qt2 (qt2 hc).1).1).1
        subst ha
        have hi := cIter_ok (tg := tg) a (hf X S sc a).1 h3
        have ok : BlkOk X.N X.env.scope scope (ownOf N scope) := by rw [a.n, a.sc]; exact blkOk_by hb
        refine imp_e (pe_lc a.calm (by rw [a.n]; exact a.nd) hi ok (fun s H C cl fp => cTgt_ok (a.blk s H C cl fp) (fun z => by cases z) h1) (fun s H C cl fp => cIfs_ok (hf _ _ _ (a.blk s H C cl fp)).2 h2) (fun s H C cl fp => (hf _ _ _ (a.blk s H C cl fp)).1 .keep (by decide) elt) (folded_ok hs)) fun _ _ _ h => ?_
        refine lc_get (fun i hi => ?_) h
        exact of_decide_eq_true (List.all_eq_true.mp hv i hi)
      · exact s_nve
    · exact s_nve
  · exact s_nve
theorem cDicP_ok {g : Md → Expr → CE} (hf : ∀ m, m ≠ .test → OkE X S (g m)) : ∀ {ks : List (Option Expr)} {vs : List Expr} {ps : CEs}, cDicP g ks vs = some ps → PPs X pos ks vs (trsOf S ps) ∧ evenE ps = true ∧ ks.all (·.isSome) = true ∧ ks.length = vs.length
  | [], [], ps, h => by
    cases h
    exact ⟨pps_nil, rfl, rfl, rfl⟩
  | [], _ :: _, ps, h => by cases h
  | none :: _, [], ps, h => by cases h
  | none :: _, _ :: _, ps, h => by cases h
  | some k :: ks, [], ps, h => by cases h
  | some k :: ks, v :: vs, ps, h => by
    obtain ⟨r, hr, he⟩ := ofn (show (cDicP g ks vs).map (fun r => CEs.cons (g .look k) (.cons (g .keep v) r)) = some ps from h)
    subst he
    obtain ⟨h1, h2, h3, h4⟩ := cDicP_ok hf hr
    exact ⟨pps_of (hf .look (by decide) k) (hf .keep (by decide) v) h1, h2, h3, by simp [h4]⟩
theorem cDic_ok {g : Md → Expr → CE} (hf : ∀ m, m ≠ .test → OkE X S (g m)) {ks : List (Option Expr)} {vs : List Expr} : PE X (.Dict ks vs pos) (lE S (cDic g ks vs)) := by
  unfold cDic
  split
  · rename_i h15
    split
    · rename_i ps h
      cases ks with
      | nil =>
        cases vs with
        | nil => cases h; exact s_dic0
        | cons _ _ => cases h
      | cons k ks =>
        obtain ⟨h1, h2, h3, h4⟩ := cDicP_ok (pos := pos) hf h
        exact s_dic h1 h2 h3 h4 (by simp) h15
    · exact s_nve
  · exact s_nve
theorem tmd_ne {md : Md} (h : md ≠ .test) : tmd md = .look := if_neg h
theorem step_v (a : At X S tb lvl N sc) (hf : OkF tb N lvl f) {md : Md} {e : Expr} (hm : md ≠ .test ∨ valTest e = true) : PE X e (lE S (step tb N f sc md e)) := by
  have h := (hf X S sc a).1
  have ht := (hf X S sc a).2
  cases e with
  | Name x p => exact cName_ok a md
  | Constant c k p => exact cConst_ok
  | BinOp x op y p =>
    show PE X _ (lE S (match cBop op with
      | some o => .bin o (f sc .soft x) (f sc .soft y)
      | none => .nve))
    split
    · rename_i o ho
      obtain ⟨rr, h1, h2⟩ := bop_ok a ho
      exact s_bin h1 h2 (h .soft (by decide) x) (h .soft (by decide) y)
    · exact s_nve
  | UnaryOp op x p =>
    cases op with
    | USub => exact s_neg (h .look (by decide) x)
    | Not =>
      have hm : md ≠ .test := hm.resolve_right (by intro z; cases z)
      show PE X _ (lE S (.nt (f sc (tmd md) x)))
      rw [tmd_ne hm]
      exact s_nt (h .look (by decide) x)
    | _ => exact s_nve
  | BoolOp op es p =>
    cases op with
    | And =>
      have hm : md ≠ .test := hm.resolve_right (by intro z; cases z)
      show PE X _ (lE S (seqB .an (es.map (f sc (tmd md)))))
      rw [tmd_ne hm]
      exact and_ok (h .look (by decide))
    | Or =>
      have hm : md ≠ .test := hm.resolve_right (by intro z; cases z)
      show PE X _ (lE S (seqB .orr (es.map (f sc (tmd md)))))
      rw [tmd_ne hm]
      exact or_ok (h .look (by decide))
  | IfExp t x y p =>
    have hm : md ≠ .test := hm.resolve_right (by intro z; cases z)
    show PE X _ (lE S (if md = .test then .nve else .ife (f sc .test t) (f sc md x) (f sc md y)))
    rw [if_neg hm]
    exact s_ife (ht t) (h md hm x) (h md hm y)
  | Tuple es k p =>
    show PE X _ (lE S (if es.all plain = true then .tup (cvs (f sc .keep) es) else .nve))
    split
    · rename_i hp; exact s_tup (cvs_ok (h .keep (by decide)) hp)
    · exact s_nve
  | List es p =>
    show PE X _ (lE S (if es.all plain = true then .lst (cvs (f sc .move) es) else .nve))
    split
    · rename_i hp; exact s_lst (cvs_ok (h .move (by decide)) hp)
    · exact s_nve
  | Dict ks vs p => exact cDic_ok h
  | Subscript x y p => exact cSubD_ok a (h .look (by decide))
  | Compare x ops ys p => exact (cCmpD_ok a (h .look (by decide))).1
  | Call fn args kws p =>
    cases fn with
    | Name x p2 => exact cCall_ok a h
    | Attribute o nm ap =>
      cases kws with
      | nil => exact cMeth_ok a h
      | cons _ _ => exact s_nve
    | _ => exact s_nve
  | ListComp elt gens scope p => exact cLc_ok a hf
  | _ => exact s_nve
theorem step_t (a : At X S tb lvl N sc) (hf : OkF tb N lvl f) {e : Expr} : PT X e (lT S (step tb N f sc .test e)) := by
  have h := (hf X S sc a).1
  have ht := (hf X S sc a).2
  by_cases hv : valTest e = true
  · exact t_val (step_v a hf (.inr hv)) (valTest_ok hv)
  · cases e with
    | UnaryOp op x p =>
      cases op with
      | Not => exact t_nt (ht x)
      | _ => exact absurd rfl hv
    | BoolOp op es p =>
      cases op with
      | And =>
        cases es with
        | nil => exact t_nve
        | cons x r => exact (tand_ok ht (es := x :: r) (by simp)).pt
      | Or =>
        cases es with
        | nil => exact t_nve
        | cons x r => exact (tor_ok ht (es := x :: r) (by simp)).pt
    | IfExp t x y p => exact t_nve
    | Compare x ops ys p => exact (cCmpD_ok a (h .look (by decide))).2
    | _ => exact absurd rfl hv
theorem step_ok (hf : OkF tb N lvl f) : OkF tb N lvl (step tb N f) := fun X S sc a => ⟨fun md hm e => step_v a hf (.inl hm), fun e => step_t a hf⟩
theorem conv_ok : ∀ n, OkF tb N lvl (conv tb N n)
  | 0 => fun X S sc a => ⟨fun _ _ _ => s_nve, fun _ => t_nve⟩
  | n + 1 => step_ok (conv_ok n)
end
end Fi
/-! From the program's text to the core: statements. -/
namespace Fi
open PySem PySem.Spec PyProof.Rows L2 RZ
structure AtS (X : Cx) (S : Sur) (tb : Tb) (lvl : Nat) (N : List Str) (sc : Scope) (prot : List Nat) : Prop where
  at_ : At X S tb lvl N sc
  po : PassesOwn (model X.prog X.w) X.A X.env X.xe
  all : ∀ x, X.fn x = true
  pv : ∀ p ∈ S.pv, p.1 ∈ prot
def isName : Expr → Bool
  | .Name _ _ => true
  | _ => false
def isTupE : Expr → Bool
  | .Tuple _ _ _ => true
  | _ => false
def isTL : Expr → Bool
  | .Tuple _ _ _ => true
  | .List _ _ => true
  | _ => false
theorem sw_no {tg v : Expr} {env : PySem.Env} (h : isTL tg = false ∨ isTupE v = false) : swappedStores [tg] v env = pure none := by
  rcases h with h | h
  · cases tg <;> first | rfl | cases h
  · cases v with
    | Tuple => cases h
    | _ => cases tg <;> rfl
theorem names_short {env : PySem.Env} {line : Nat} {g : Expr → Option Str} (hg : ∀ e, isName e = false → g e = none) : ∀ {ts : List Expr}, ts.all isName = false → (ts.filterMap g).length ≠ ts.length := fun {ts} h => by
  have le : ∀ l : List Expr, (l.filterMap g).length ≤ l.length := fun l => List.length_filterMap_le g l
  induction ts with
  | nil => cases h
  | cons t r ih =>
    rw [List.all_cons] at h
    cases ht : isName t with
    | false =>
      rw [List.filterMap_cons, hg t ht]
      have := le r
      intro e
      have e : (r.filterMap g).length = r.length + 1 := e
      omega
    | true =>
      rw [ht, Bool.true_and] at h
      have := ih h
      rw [List.filterMap_cons]
      cases g t with
      | none => have := le r; intro e; have e : (r.filterMap g).length = r.length + 1 := e; omega
      | some s => intro e; exact this (by simpa using e)
theorem sw_sub {ts vs : List Expr} {k k2 : Nat} {p p2 : Pos} {env : PySem.Env} (h : ts.all isName = false) : swappedStores [.Tuple ts k p] (.Tuple vs k2 p2) env = pure none := by
  unfold swappedStores
  simp only []
  split
  · rfl
  · split
    · rfl
    · rw [if_pos]
      rw [Bool.or_eq_true]
      refine .inl (bne_iff_ne.mpr (names_short (env := env) (line := 0) (fun e he => ?_) h))
      cases e with
      | Name => cases he
      | _ => rfl
theorem kind_eq {a b : ScopeKind} (h : decide (a = b) = true) : a = b := of_decide_eq_true h
/-- two names stored from the right -/
def parOk2 (sc : Scope) (x y : Str) (px py : Pos) (vs : List Expr) : Bool := decide (sc.names.lookup x = some .local) && decide (sc.names.lookup y = some .local) && (py.line == px.line) && !(decide (x = y)) && vs.all plain && !(vs.all (foldedForSure 8)) && !(vs.all (constantsAlone 8)) && decide (vs.length = 2) && decide (sc.kind = .function)
theorem sw_two {x y : Str} {px py p p2 : Pos} {vs : List Expr} {k k2 : Nat} {sc : Scope} {env : PySem.Env} (he : env.scope = sc) (h : parOk2 sc x y px py vs = true) : swappedStores [.Tuple [.Name x px, .Name y py] k p] (.Tuple vs k2 p2) env = pure (some [x, y]) := by
  unfold parOk2 at h
  simp only [Bool.and_eq_true, decide_eq_true_eq, Bool.not_eq_true', decide_eq_false_iff_not] at h
  obtain ⟨⟨⟨⟨⟨⟨⟨⟨h1, h2⟩, h3⟩, h4⟩, h5⟩, h6⟩, h7⟩, h8⟩, h9⟩ := h
  have e1 : (env.kindOf x == some NameKind.local) = true := by
    show (env.scope.names.lookup x == _) = true
    rw [he, h1]; rfl
  have e2 : (env.kindOf y == some NameKind.local) = true := by
    show (env.scope.names.lookup y == _) = true
    rw [he, h2]; rfl
  have e3 : (env.blockKind != ScopeKind.function) = false := by
    unfold Env.blockKind
    rw [he, h9]; rfl
  have e4 : (vs.any fun | .Starred .. => true | _ => false) = false := by
    clear h6 h7 h8
    induction vs with
    | nil => rfl
    | cons v r ih =>
      rw [List.all_cons, Bool.and_eq_true] at h5
      rw [List.any_cons, ih h5.2, Bool.or_false]
      have := h5.1
      cases v <;> first | rfl | cases this
  have e5 : (px.line == px.line) = true := beq_self_eq_true _
  have e6 : (vs.length != 2) = false := by rw [h8]; rfl
  have hpos : (Expr.Name x px).pos = px := rfl
  have e7 : ([x, y].eraseDups.length != 2) = false := by
    have h4' : ¬ (y = x) := fun e => h4 e.symm
    simp [List.eraseDups_cons, h4', beq_eq_false_iff_ne.mpr h4']
  unfold swappedStores
  simp only [List.length_cons, List.length_nil, List.head?_cons, Option.map_some, Option.getD_some, List.filterMap_cons, List.filterMap_nil, hpos, e1, e2, h3, e3, e5, Bool.and_self, if_true, Bool.or_false]
  rw [if_neg (by rw [h8]; decide)]
  refine Eq.trans (if_neg ?_) ?_
  · exact fun z => Bool.false_ne_true (Eq.trans (Eq.symm e4) z)
  rw [if_neg (by
    have : ((0 + 1 + 1 != 0 + 1 + 1) : Bool) = false := rfl
    rw [this, Bool.false_or]
    rw [show ([x, y].eraseDups.length != 0 + 1 + 1) = false from e7]
    decide), if_neg (by rw [h6]; decide), if_neg (by rw [h7]; decide)]
/-- three -/
def parOk3 (sc : Scope) (x y z : Str) (px py pz : Pos) (vs : List Expr) : Bool := decide (sc.names.lookup x = some .local) && decide (sc.names.lookup y = some .local) && decide (sc.names.lookup z = some .local) && (py.line == px.line) && (pz.line == px.line) && !(decide (x = y)) && !(decide (x = z)) && !(decide (y = z)) && vs.all plain && !(vs.all (foldedForSure 8)) && !(vs.all (constantsAlone 8)) && decide (vs.length = 3) && decide (sc.kind = .function)
theorem noStar {vs : List Expr} (h5 : vs.all plain = true) : (vs.any fun | .Starred .. => true | _ => false) = false := by
  induction vs with
  | nil => rfl
  | cons v r ih =>
    rw [List.all_cons, Bool.and_eq_true] at h5
    rw [List.any_cons, ih h5.2, Bool.or_false]
    have := h5.1
    cases v <;> first | rfl | cases this
theorem sw_three {x y z : Str} {px py pz p p2 : Pos} {vs : List Expr} {k k2 : Nat} {sc : Scope} {env : PySem.Env} (he : env.scope = sc) (h : parOk3 sc x y z px py pz vs = true) : swappedStores [.Tuple [.Name x px, .Name y py, .Name z pz] k p] (.Tuple vs k2 p2) env = pure (some [x, y, z]) := by
  unfold parOk3 at h
  simp only [Bool.and_eq_true, decide_eq_true_eq, Bool.not_eq_true', decide_eq_false_iff_not] at h
  obtain ⟨⟨⟨⟨⟨⟨⟨⟨⟨⟨⟨⟨h1, h2⟩, h2'⟩, h3⟩, h3'⟩, h4⟩, h4'⟩, h4''⟩, h5⟩, h6⟩, h7⟩, h8⟩, h9⟩ := h
  have e1 : (env.kindOf x == some NameKind.local) = true := by
    show (env.scope.names.lookup x == _) = true
    rw [he, h1]; rfl
  have e2 : (env.kindOf y == some NameKind.local) = true := by
    show (env.scope.names.lookup y == _) = true
    rw [he, h2]; rfl
  have e2' : (env.kindOf z == some NameKind.local) = true := by
    show (env.scope.names.lookup z == _) = true
    rw [he, h2']; rfl
  have e3 : (env.blockKind != ScopeKind.function) = false := by
    unfold Env.blockKind
    rw [he, h9]; rfl
  have e4 := noStar h5
  have e5 : (px.line == px.line) = true := beq_self_eq_true _
  have hpos : (Expr.Name x px).pos = px := rfl
  have e7 : ([x, y, z].eraseDups.length != 0 + 1 + 1 + 1) = false := by
    have a1 : ¬ (y = x) := fun e => h4 e.symm
    have a2 : ¬ (z = x) := fun e => h4' e.symm
    have a3 : ¬ (z = y) := fun e => h4'' e.symm
    simp [List.eraseDups_cons, a1, a2, a3, beq_eq_false_iff_ne.mpr a1, beq_eq_false_iff_ne.mpr a2, beq_eq_false_iff_ne.mpr a3]
  unfold swappedStores
  simp only [List.length_cons, List.length_nil, List.head?_cons, Option.map_some, Option.getD_some, List.filterMap_cons, List.filterMap_nil, hpos, e1, e2, e2', h3, h3', e3, e5, Bool.and_self, if_true, Bool.or_false]
  rw [if_neg (by rw [h8]; decide)]
  refine Eq.trans (if_neg ?_) ?_
  · exact fun z => Bool.false_ne_true (Eq.trans (Eq.symm e4) z)
  rw [if_neg (by
    have : ((0 + 1 + 1 + 1 != 0 + 1 + 1 + 1) : Bool) = false := rfl
    rw [this, Bool.false_or, e7]
    decide), if_neg (by rw [h6]; decide), if_neg (by rw [h7]; decide)]
/-- more than three -/
theorem sw_many {ts vs : List Expr} {k k2 : Nat} {p p2 : Pos} {env : PySem.Env} (h : (ts.length == 2 || ts.length == 3) = false) : swappedStores [.Tuple ts k p] (.Tuple vs k2 p2) env = pure none := by
  unfold swappedStores
  simp only []
  rw [if_pos (by rw [h]; rfl)]
/-- a comprehension stored in a local of its own line -/
def lcSw (sc : Scope) (x : Str) (px pv : Pos) (scope : Scope) : Bool := decide (sc.kind = .function) && decide (sc.names.lookup x = some .local) && (px.line == pv.line) && !(scope.names.any fun (n, k) => n == x && (k == .local || k == .cell))
theorem sw_lc {x : Str} {px pv : Pos} {elt : Expr} {gens : List Comprehension} {scope sc : Scope} {n : Nat} {env : PySem.Env} (he : env.scope = sc) (h : lcSw sc x px pv scope = true) : swapsWith (.ListComp elt gens scope pv) (some (.Name x px)) n env = pure true := by
  unfold lcSw at h
  simp only [Bool.and_eq_true, decide_eq_true_eq] at h
  obtain ⟨⟨⟨h1, h2⟩, h3⟩, h4⟩ := h
  have e1 : (env.blockKind == ScopeKind.function) = true := by
    unfold Env.blockKind
    rw [he, h1]; rfl
  have e2 : (env.kindOf x == some NameKind.local) = true := by
    show (env.scope.names.lookup x == _) = true
    rw [he, h2]; rfl
  unfold swapsWith
  show pure (env.blockKind == .function && env.kindOf x == some .local && px.line == pv.line && !(scope.names.any fun (n, k) => n == x && (k == .local || k == .cell))) = pure true
  rw [e1, e2, h3, h4]
  rfl
end Fi
/-! From the program's text to the core: statements. -/
namespace Fi
open PySem PySem.Spec PyProof.Rows L2 RZ
def apart (prot : List Nat) (is : List Nat) : Bool := is.all fun i => !(prot.contains i)
theorem apart_ok {prot is : List Nat} (h : apart prot is = true) {i : Nat} (hi : i ∈ is) : ∀ p ∈ prot, p ≠ i := fun p hp e => by
  have := List.all_eq_true.mp h i hi
  subst e
  rw [List.contains_iff_mem.mpr hp] at this
  cases this
/-- a local name's slot -/
def cLoc (N : List Str) (sc : Scope) (x : Str) : Option Nat := if isLoc true sc x = true then slot N sc x else none
def cPl (f : Expr → CE) (N : List Str) (sc : Scope) (e : Expr) : Option Pl := match e with
  | .Subscript o k _ => if noSlice k = true then (cPath f N sc depthP o).map fun p => ⟨p.1, p.2, f k⟩ else none
  | _ => none
def cPls (f : Expr → CE) (N : List Str) (sc : Scope) : List Expr → Option (List Pl)
  | [] => some []
  | e :: r => match cPl f N sc e, cPls f N sc r with
    | some p, some ps => some (p :: ps)
    | _, _ => none
def cPar (f : Md → Expr → CE) (N : List Str) (sc : Scope) (prot : List Nat) (ts vs : List Expr) : Option CS := match ts with
  | [.Name x px, .Name y py] => if parOk2 sc x y px py vs = true then (match cLoc N sc x, cLoc N sc y with
    | some i, some j => if (apart prot [i, j] && !(i == j)) = true then some (.par [i, j] (cvs (f .keep) vs)) else none
    | _, _ => none) else none
  | [.Name x px, .Name y py, .Name z pz] => if parOk3 sc x y z px py pz vs = true then (match cLoc N sc x, cLoc N sc y, cLoc N sc z with
    | some i, some j, some l => if (apart prot [i, j, l] && !(i == j) && !(i == l) && !(j == l)) = true then some (.par [i, j, l] (cvs (f .keep) vs)) else none
    | _, _, _ => none) else none
  | _ => none
def cTupA (f : Md → Expr → CE) (N : List Str) (sc : Scope) (prot : List Nat) (tg v : Expr) : CS := match cTgt true N sc depthT tg with
  | some t => if apart prot t.is = true then .tup t (f .keep v) else .nvr
  | none => .nvr
def cAssT (f : Md → Expr → CE) (N : List Str) (sc : Scope) (prot : List Nat) (tg : Expr) (ts : List Expr) (v : Expr) : CS := match v with
  | .Tuple vs _ _ => (match cPar f N sc prot ts vs with
    | some s => s
    | none => if (ts.all isName) = false then (if ts.all plain = true then (match cPls (f .look) N sc ts with
        | some ps => .stt ps (f .keep v)
        | none => .nvr) else .nvr)
      else if (ts.length == 2 || ts.length == 3) = false then cTupA f N sc prot tg v else .nvr)
  | v => if noComp v = true then cTupA f N sc prot tg v else .nvr
def cAss (h : Scope → Md → Expr → CE) (N : List Str) (sc : Scope) (prot : List Nat) (tg v : Expr) : CS := match tg with
  | .Name x px => (match cLoc N sc x with
    | some i => if apart prot [i] = true then (match v with
      | .ListComp elt gens scope pv => if lcSw sc x px pv scope = true then .set i (cLc h N sc elt gens scope) else .nvr
      | v => if noComp v = true then .set i (h sc .keep v) else .nvr) else .nvr
    | none => .nvr)
  | .Tuple ts k p => cAssT (h sc) N sc prot (.Tuple ts k p) ts v
  | .Subscript o k p => (match cPl (h sc .look) N sc (.Subscript o k p) with
    | some q => if noComp v = true then .st q (h sc .keep v) else .nvr
    | none => .nvr)
  | _ => .nvr
def stepS (h : Scope → Md → Expr → CE) (N : List Str) (sc : Scope) (prot : List Nat) (g : List Stmt → CSs) (s : Stmt) : CS := match s with
  | .Pass _ => .pass
  | .Break _ => .brk
  | .Continue _ => .cnt
  | .Return none _ => .retn
  | .Return (some e) _ => .ret (h sc .move e)
  | .Expr e _ => (match e with
    | .Constant (.str _) _ _ => .pass
    | e => if noComp e = true then .ex (h sc .look e) else .nvr)
  | .If c a b _ => .ite (h sc .test c) (g a) (g b)
  | .While c body [] _ => .whl (h sc .test c) (g body)
  | .For tg iter body [] _ => (match cTgt true N sc depthT tg, cIter (h sc) sc tg iter with
    | some t, some it => if (apart prot t.is && noSet iter) = true then .loop t it (g body) else .nvr
    | _, _ => .nvr)
  | .Assign [tg] v _ => cAss h N sc prot tg v
  | _ => .nvr
def convSs (tb : Tb) (N : List Str) (sc : Scope) (prot : List Nat) (fuel : Nat) : Nat → List Stmt → CSs
  | 0, _ => .cons .nvr .nil
  | _ + 1, [] => .nil
  | n + 1, s :: r => .cons (stepS (conv tb N fuel) N sc prot (convSs tb N sc prot fuel n) s) (convSs tb N sc prot fuel n r)
section
variable {X : Cx} {S : Sur} {tb : Tb} {lvl : Nat} {N : List Str} {sc : Scope} {prot : List Nat} {pos p : Pos} {h : Scope → Md → Expr → CE}
theorem AtS.ne (a : AtS X S tb lvl N sc prot) {is : List Nat} (hp : apart prot is = true) {i : Nat} (hi : i ∈ is) : ∀ p ∈ S.pv, p.1 ≠ i := fun p hp2 => apart_ok hp hi p.1 (a.pv p hp2)
theorem cLoc_ok {x : Str} {i : Nat} (hc : cLoc N sc x = some i) : (sc.names.lookup x = some .local ∨ sc.names.lookup x = some .cell) ∧ N[i]? = some x := by
  unfold cLoc at hc
  split at hc
  · rename_i hl
    refine ⟨?_, (slot_ok hc).2.2⟩
    rcases isLoc_ok hl with q | q
    · exact .inl q
    · exact .inr q.1
  · cases hc
theorem ss_nvr {rest : List Stmt} : PSs X rest (lSs S (.cons .nvr .nil)) := ⟨fun pins s σ H D I ⟨R, e, nb, f, hh⟩ => by
  rw [exSs, exS] at hh
  exact hh.elim⟩
theorem set_nve {st : Stmt} {i : Nat} : PS X st (lS S (.set i .nve)) := ⟨fun pins s σ H D I ⟨R, e, nb, f, hh⟩ => by
  rw [exS, ev] at hh
  exact hh.elim⟩
theorem sole_ok {e t : Expr} {n : Nat} {env : PySem.Env} (hn : noComp e = true) : swapsWithSole [t] e n env = pure false := swaps_ok (t := some t) hn
theorem one_ok {e : Expr} {env : PySem.Env} (hp : plain e = true) : (assignEach [e] env).map (·.2) = [assign e env] := by
  cases e <;> first | rfl | cases hp
theorem cPl_ok (a : AtS X S tb lvl N sc prot) {f : Expr → CE} (hf : OkE X S f) {e : Expr} {q : Pl} (hq : cPl f N sc e = some q) : PG X e (lGst S q) := by
  unfold cPl at hq
  split at hq
  · rename_i o k pp
    split at hq
    · rename_i hk
      obtain ⟨p2, h1, h2⟩ := ofn hq
      subst h2
      have hu := a.at_.un
      refine g_st (pg_sub (cPath_ok a.at_ hf h1) (hf k) (pset_any (by omega)) fun v => ?_)
      cases k with
      | Slice => cases hk
      | _ => rfl
    · cases hq
  · cases hq
theorem cPls_ok (a : AtS X S tb lvl N sc prot) {f : Expr → CE} (hf : OkE X S f) : ∀ {es : List Expr} {ps : List Pl}, es.all plain = true → cPls f N sc es = some ps → PGs X es (lGsts S ps) ∧ es.length = ps.length
  | [], ps, _, hq => by cases hq; exact ⟨gs_nil, rfl⟩
  | e :: r, ps, hp, hq => by
    rw [List.all_cons, Bool.and_eq_true] at hp
    unfold cPls at hq
    split at hq
    · rename_i q qs h1 h2
      cases hq
      obtain ⟨g1, g2⟩ := cPls_ok a hf hp.2 h2
      refine ⟨gs_cons (cPl_ok a hf h1) g1 ?_, by simp [g2]⟩
      have := hp.1
      cases e <;> first | rfl | cases this
    · cases hq
theorem cPar_ok (a : AtS X S tb lvl N sc prot) {f : Md → Expr → CE} (hf : ∀ m, m ≠ .test → OkE X S (f m)) {ts vs : List Expr} {k k2 : Nat} {pt p2 sp : Pos} {s : CS} (hs : cPar f N sc prot ts vs = some s) : PS X (.Assign [.Tuple ts k pt] (.Tuple vs k2 p2) sp) (lS S s) := by
  have A := a.at_
  unfold cPar at hs
  split at hs
  · rename_i x px y py
    split at hs
    · rename_i hp
      split at hs
      · rename_i i j h1 h2
        obtain ⟨hc, he⟩ := oif hs
        subst he
        obtain ⟨l1, n1⟩ := cLoc_ok h1
        obtain ⟨l2, n2⟩ := cLoc_ok h2
        have hw := sw_two (k := k) (k2 := k2) (p := pt) (p2 := p2) (vs := vs) A.sc hp
        unfold parOk2 at hp
        simp only [Bool.and_eq_true, decide_eq_true_eq, Bool.not_eq_true', decide_eq_false_iff_not] at hp
        obtain ⟨⟨⟨⟨⟨⟨⟨⟨q1, q2⟩, q3⟩, q4⟩, q5⟩, q6⟩, q7⟩, q8⟩, q9⟩ := hp
        rcases vs with _ | ⟨v1, _ | ⟨v2, _ | ⟨v3, r⟩⟩⟩
        · cases q8
        · cases q8
        · have hij : i ≠ j := by
            have := (qt2 hc).2
            simpa using this
          exact s_par2 (ps_par A.calm (by rw [A.n]; exact A.nd) (by rw [A.n]; exact n1) (by rw [A.n]; exact n2) hij (by rw [A.sc]; exact q1) (by rw [A.sc]; exact q2) (cvs_ok (hf .keep (by decide)) q5) hw (sole_ok rfl)) (a.ne (qt2 hc).1 (by simp)) (a.ne (qt2 hc).1 (by simp))
        · have : r.length + 3 = 2 := q8
          omega
      · cases hs
    · cases hs
  · rename_i x px y py z pz
    split at hs
    · rename_i hp
      split at hs
      · rename_i i j l h1 h2 h3
        obtain ⟨hc, he⟩ := oif hs
        subst he
        obtain ⟨l1, n1⟩ := cLoc_ok h1
        obtain ⟨l2, n2⟩ := cLoc_ok h2
        obtain ⟨l3, n3⟩ := cLoc_ok h3
        have hw := sw_three (k := k) (k2 := k2) (p := pt) (p2 := p2) (vs := vs) A.sc hp
        unfold parOk3 at hp
        simp only [Bool.and_eq_true, decide_eq_true_eq, Bool.not_eq_true', decide_eq_false_iff_not] at hp
        obtain ⟨⟨⟨⟨⟨⟨⟨⟨⟨⟨⟨⟨q1, q2⟩, q2'⟩, q3⟩, q3'⟩, q4⟩, q4'⟩, q4''⟩, q5⟩, q6⟩, q7⟩, q8⟩, q9⟩ := hp
        simp only [Bool.and_eq_true, Bool.not_eq_true', beq_eq_false_iff_ne] at hc
        obtain ⟨⟨⟨c1, c2⟩, c3⟩, c4⟩ := hc
        rcases vs with _ | ⟨v1, _ | ⟨v2, _ | ⟨v3, _ | ⟨v4, r⟩⟩⟩⟩
        · cases q8
        · cases q8
        · cases q8
        · exact s_par3 (ps_par3 A.calm (by rw [A.n]; exact A.nd) (by rw [A.n]; exact n1) (by rw [A.n]; exact n2) (by rw [A.n]; exact n3) c2 c3 c4 (by rw [A.sc]; exact q1) (by rw [A.sc]; exact q2) (by rw [A.sc]; exact q2') (cvs_ok (hf .keep (by decide)) q5) hw (sole_ok rfl)) (a.ne c1 (by simp)) (a.ne c1 (by simp)) (a.ne c1 (by simp))
        · have : r.length + 4 = 3 := q8
          omega
      · cases hs
    · cases hs
  · cases hs
theorem cTupA_ok (a : AtS X S tb lvl N sc prot) {f : Md → Expr → CE} (hf : ∀ m, m ≠ .test → OkE X S (f m)) {tg v : Expr} {sp : Pos} (hp : plain tg = true) (hn : noComp v = true) (hw : swappedStores [tg] v X.env = pure none) : PS X (.Assign [tg] v sp) (lS S (cTupA f N sc prot tg v)) := by
  unfold cTupA
  split
  · rename_i t ht
    split
    · rename_i hap
      exact s_tupS (tg := tg) (ps_asg (hf .keep (by decide) v) (cTgt_ok a.at_ (fun _ => a.all) ht) (sole_ok hn) hw (one_ok hp)) fun i hi => a.ne hap hi
    · exact s_nvr
  · exact s_nvr
theorem cAssT_ok (a : AtS X S tb lvl N sc prot) {f : Md → Expr → CE} (hf : ∀ m, m ≠ .test → OkE X S (f m)) {ts : List Expr} {k : Nat} {pt sp : Pos} {v : Expr} : PS X (.Assign [.Tuple ts k pt] v sp) (lS S (cAssT f N sc prot (.Tuple ts k pt) ts v)) := by
  unfold cAssT
  split
  · rename_i vs k2 p2
    split
    · rename_i s hs
      exact cPar_ok a hf hs
    · split
      · rename_i hn
        split
        · rename_i hpl
          split
          · rename_i ps hps
            obtain ⟨g1, g2⟩ := cPls_ok a (hf .look (by decide)) hpl hps
            exact s_stt (ps_asg (hf .keep (by decide) _) (g_stt a.at_.K a.at_.calm g1 (by rw [assignEach_len, g2]) (assignEach_star hpl)) (sole_ok rfl) (sw_sub hn) rfl)
          · exact s_nvr
        · exact s_nvr
      · split
        · rename_i hl
          exact cTupA_ok a hf rfl rfl (sw_many hl)
        · exact s_nvr
  · rename_i hv
    split
    · rename_i hn
      refine cTupA_ok a hf rfl hn (sw_no (.inr ?_))
      cases v with
      | Tuple vs k2 p2 => exact absurd rfl (hv vs k2 p2)
      | _ => rfl
    · exact s_nvr
theorem lc_st (a : AtS X S tb lvl N sc prot) (hf : OkF tb N lvl h) {x : Str} {px pv sp : Pos} {elt : Expr} {gens : List Comprehension} {scope : Scope} {i : Nat} (hi : cLoc N sc x = some i) (hap : apart prot [i] = true) (hsw : lcSw sc x px pv scope = true) : PS X (.Assign [.Name x px] (.ListComp elt gens scope pv) sp) (lS S (.set i (cLc h N sc elt gens scope))) := by
  have A := a.at_
  obtain ⟨l1, n1⟩ := cLoc_ok hi
  have hy : X.env.scope.names.lookup x = some .local := by
    rw [A.sc]
    unfold lcSw at hsw
    simp only [Bool.and_eq_true, decide_eq_true_eq] at hsw
    exact hsw.1.1.2
  have hs2 := sw_lc (elt := elt) (gens := gens) (n := sp.line) A.sc hsw
  unfold cLc
  split
  · rename_i tg iter ifs as
    split
    · rename_i t cs it h1 h2 h3
      split
      · rename_i hc
        have hs := (qt2 hc).2
        have hv := (qt2 (qt2 hc).1).2
        have hb := (qt2 (qt2 (qt2 hc).1).1).2
        have ha : as = 0 := of_decide_eq_true (qt2 (qt2 (qt2 hc).1).1).1
        subst ha
        have hit := cIter_ok (tg := tg) A (hf X S sc A).1 h3
        have ok : BlkOk X.N X.env.scope scope (ownOf N scope) := by rw [A.n, A.sc]; exact blkOk_by hb
        refine s_set (tg := .Name x px) (ps_setLc A.calm (by rw [A.n]; exact A.nd) (by rw [A.n]; exact n1) hy hs2 hit ok (fun s H C cl fp => cTgt_ok (A.blk s H C cl fp) (fun z => by cases z) h1) (fun s H C cl fp => cIfs_ok (hf _ _ _ (A.blk s H C cl fp)).2 h2) (fun s H C cl fp => (hf _ _ _ (A.blk s H C cl fp)).1 .keep (by decide) elt) (folded_ok hs)) (fun σ H Q hh => ?_) (a.ne hap (by simp))
        refine lc_get (fun i hi => ?_) hh
        exact of_decide_eq_true (List.all_eq_true.mp hv i hi)
      · exact set_nve
    · exact set_nve
  · exact set_nve
theorem cAss_ok (a : AtS X S tb lvl N sc prot) (hf : OkF tb N lvl h) {tg v : Expr} {sp : Pos} : PS X (.Assign [tg] v sp) (lS S (cAss h N sc prot tg v)) := by
  have A := a.at_
  have hv := (hf X S sc A).1
  unfold cAss
  split
  · rename_i x px
    split
    · rename_i i hi
      split
      · rename_i hap
        split
        · split
          · rename_i hsw
            exact lc_st a hf hi hap hsw
          · exact s_nvr
        · split
          · rename_i hn
            obtain ⟨l1, n1⟩ := cLoc_ok hi
            refine s_set (tg := .Name x px) (ps_set (by rw [A.n]; exact A.nd) (by rw [A.n]; exact n1) (by rw [A.sc]; exact l1) (hv .keep (by decide) v) (swaps_ok hn) (.inl (a.all x))) (fun _ _ _ hh => hh) (a.ne hap (by simp))
          · exact s_nvr
      · exact s_nvr
    · exact s_nvr
  · exact cAssT_ok a hv
  · rename_i o k p
    split
    · rename_i q hq
      split
      · rename_i hn
        exact s_st (tg := .Subscript o k p) (ps_asg (hv .keep (by decide) v) (cPl_ok a (hv .look (by decide)) hq) (sole_ok hn) (sw_no (.inl rfl)) rfl)
      · exact s_nvr
    · exact s_nvr
  · exact s_nvr
theorem stepS_ok (a : AtS X S tb lvl N sc prot) (hf : OkF tb N lvl h) {g : List Stmt → CSs} (hg : ∀ l, PSs X l (lSs S (g l))) (s : Stmt) : PS X s (lS S (stepS h N sc prot g s)) := by
  have A := a.at_
  have hv := (hf X S sc A).1
  have ht := (hf X S sc A).2
  unfold stepS
  split
  · exact s_pass
  · exact s_brk
  · exact s_cnt
  · exact s_retn
  · exact s_ret (hv .move (by decide) _)
  · split
    · exact imp_s ps_doc fun D σ H ⟨R, e, nb, f, hh⟩ => by
        rw [exS] at hh
        exact hh σ H f
    · split
      · rename_i hn
        exact s_expr (hv .look (by decide) _) (swaps_ok hn)
      · exact s_nvr
  · exact s_if (ht _) (hg _) (hg _)
  · exact s_whl a.po (ht _) (hg _)
  · split
    · rename_i t it h1 h2
      split
      · rename_i hc
        exact s_for a.po A.calm (cIter_ok A hv h2) (cTgt_ok A (fun _ => a.all) h1) (hg _) (folded_ok (qt2 hc).2) fun i hi => a.ne (qt2 hc).1 hi
      · exact s_nvr
    · exact s_nvr
  · exact cAss_ok a hf
  · exact s_nvr
theorem convSs_ok (a : AtS X S tb lvl N sc prot) {fuel : Nat} : ∀ n l, PSs X l (lSs S (convSs tb N sc prot fuel n l))
  | 0, l => ss_nvr
  | n + 1, [] => ss_nil
  | n + 1, s :: r => ss_cons (stepS_ok a (conv_ok fuel) (convSs_ok a n) s) (convSs_ok a n r)
end
end Fi
/-! Defs by their core; the whole program by levels. -/
namespace Fi
open PySem PySem.Spec PyProof.Rows L2 RZ
/-- a def -/
structure Fd where
  n : Nat
  m : Nat
  prot : List Nat
  body : CSs
def outj (prot : List Nat) (e : Env) (j : Nat) : U := if prot.contains j = true then (match e[j]? with
  | some (some u) => if isB u = true then .gone else u
  | _ => .gone) else .gone
def outs (d : Fd) (e : Env) : List U := (List.range d.n).map (outj d.prot e)
def callB (ds : List Fd) (F : Nat → List U → Cr) (g : Nat) (us : List U) : Cr := match ds[g]? with
  | none => .no
  | some d => if us.length = d.n then (match exSs F d.body (us.map some ++ List.replicate (d.m - d.n) none) with
    | .nx e => .ok (.d .none) (outs d e)
    | .rt u e => if okU u = true then .ok u (outs d e) else .no
    | .ex x e => .ex x (outs d e)
    | _ => .no) else .no
def Fn (ds : List Fd) : Nat → Nat → List U → Cr
  | 0, _, _ => .no
  | l + 1, g, us => callB ds (Fn ds l) g us
section
variable {S : Sur} {H : Hp} {T R : List (U × V)} {σ : L2.St} {e : Env} {us : List U} {vs : List V}
theorem outj_nb (prot : List Nat) (e : Env) (j : Nat) : isB (outj prot e j) = false := by
  unfold outj
  split
  · split
    · split
      · rfl
      · rename_i h; exact Bool.eq_false_iff.mpr h
    · rfl
  · rfl
theorem outs_nb (d : Fd) (e : Env) : nbs (outs d e) = true := by
  unfold nbs outs
  rw [List.all_map]
  exact List.all_eq_true.mpr fun j _ => by
    show (!isB (outj d.prot e j)) = true
    rw [outj_nb]; rfl
theorem outs_len (d : Fd) (e : Env) : (outs d e).length = d.n := by unfold outs; simp
/-- what stands in the protected slots is taken out -/
theorem take_outs {prot : List Nat} (hpv : ∀ j ∈ prot, ∀ v, vs[j]? = some v → (j, v) ∈ S.pv) : ∀ {js : List Nat}, js.Nodup → (∀ j ∈ js, j < vs.length) → S.fr H T e σ → ∃ e', S.fr H ((js.map fun j => (outj prot e j, vs.getD j .non)) ++ T) e' σ ∧ ∀ i, i ∉ js → e'[i]? = e[i]?
  | [], _, _, f => ⟨e, f, fun _ _ => rfl⟩
  | j :: js, nd, hl, f => by
    obtain ⟨n1, n2⟩ := List.nodup_cons.mp nd
    obtain ⟨e1, f1, h1⟩ := take_outs hpv n2 (fun i hi => hl i (List.mem_cons_of_mem _ hi)) f
    have hj := hl j List.mem_cons_self
    have hv : vs[j]? = some (vs.getD j .non) := by rw [List.getD_eq_getElem?_getD, List.getElem?_eq_getElem hj]; rfl
    have gone : outj prot e j = .gone → ∃ e', S.fr H (((j :: js).map fun j => (outj prot e j, vs.getD j .non)) ++ T) e' σ ∧ ∀ i, i ∉ j :: js → e'[i]? = e[i]? := fun hg => by
      refine ⟨e1, ?_, fun i hi => h1 i fun z => hi (List.mem_cons_of_mem _ z)⟩
      show S.fr H ((outj prot e j, vs.getD j .non) :: ((js.map fun j => (outj prot e j, vs.getD j .non)) ++ T)) e1 σ
      rw [hg]
      exact f1.add (fun D => rfl) rfl
    by_cases hp : prot.contains j = true
    · cases q : e[j]? with
      | none => exact gone (by unfold outj; rw [if_pos hp, q])
      | some o =>
        cases o with
        | none => exact gone (by unfold outj; rw [if_pos hp, q])
        | some u =>
          by_cases hb : isB u = true
          · exact gone (by unfold outj; rw [if_pos hp, q]; exact if_pos hb)
          · have ho : outj prot e j = u := by unfold outj; rw [if_pos hp, q]; exact if_neg hb
            have q1 : e1[j]? = some (some u) := by rw [h1 j n1, q]
            obtain ⟨v, hs, f2⟩ := f1.pull q1 (Bool.eq_false_iff.mpr hb)
            have hpr := f1.pr _ (hpv j (List.contains_iff_mem.mp hp) _ hv)
            have ev : v = vs.getD j .non := by
              have : σ[j]? = some (some (vs.getD j .non)) := hpr
              rw [hs] at this
              cases this; rfl
            subst ev
            refine ⟨e1.set j none, ?_, fun i hi => ?_⟩
            · show S.fr H ((outj prot e j, vs.getD j .non) :: ((js.map fun j => (outj prot e j, vs.getD j .non)) ++ T)) _ σ
              rw [ho]; exact f2
            · have hij : j ≠ i := fun z => hi (by rw [z]; exact List.mem_cons_self)
              rw [List.getElem?_set_ne hij]
              exact h1 i fun z => hi (List.mem_cons_of_mem _ z)
    · exact gone (by unfold outj; rw [if_neg hp])
/-- the frame is left -/
theorem leave {d : Fd} (hpv : ∀ j ∈ d.prot, ∀ v, vs[j]? = some v → (j, v) ∈ S.pv) (hn : vs.length = d.n) (f : S.fr H T e σ) : Rel S.K S.fa H ((outs d e).zip vs ++ T) := by
  obtain ⟨e', f1, _⟩ := take_outs (vs := vs) (prot := d.prot) hpv (js := List.range d.n) List.nodup_range (fun j hj => by rw [hn]; exact List.mem_range.mp hj) f
  have ez : (outs d e).zip vs = (List.range d.n).map fun j => (outj d.prot e j, vs.getD j .non) := by
    refine List.ext_getElem (by simp [outs, hn]) fun i h1 h2 => ?_
    have hi : i < vs.length := by simp at h1; omega
    simp [outs, List.getElem_zip, List.getD_eq_getElem?_getD, List.getElem?_eq_getElem hi]
  rw [ez]
  exact Rel.drop (L := fl e' σ) (f1.rel.perm List.perm_append_comm)
theorem fl_app : ∀ {us : List U} {vs : List V} {k j : Nat}, us.length = vs.length → fl (us.map some ++ List.replicate k none) (vs.map some ++ List.replicate j none) = us.zip vs
  | [], [], k, j, _ => by
    show fl (List.replicate k none) (List.replicate j none) = []
    induction k generalizing j with
    | zero => cases j <;> rfl
    | succ k ih =>
      cases j with
      | zero => rfl
      | succ j => exact ih j
  | u :: us, v :: vs, k, j, l => congrArg ((u, v) :: ·) (fl_app (us := us) (vs := vs) (by simpa using l))
  | [], _ :: _, _, _, l => by cases l
  | _ :: _, [], _, _, l => by cases l
/-- the frame is entered -/
theorem enter {N : List Str} {d : Fd} (hl : us.length = vs.length) (hn : us.length = d.n) (hm : d.m = N.length) (hpv : ∀ p ∈ S.pv, vs[p.1]? = some p.2) (nb : noB R = R) (r : Rel S.K S.fa H (us.zip vs ++ R)) : S.fr H R (us.map some ++ List.replicate (d.m - d.n) none) (start N vs) := by
  have e0 : start N vs = vs.map some ++ List.replicate (N.length - vs.length) none := rfl
  refine ⟨?_, ?_, fun i u h => ?_, fun i v m => absurd m (nbR nb i v), fun p hp => ?_⟩
  · rw [e0, fl_app hl]
    exact r.perm List.perm_append_comm
  · rw [e0]; simp [hl, ← hn, hm]
  · have hi : i < us.length := by
      refine Nat.lt_of_not_le fun hge => ?_
      rw [List.getElem?_append_right (by simpa using hge), List.getElem?_replicate] at h
      split at h <;> cases h
    have hv : i < vs.length := by omega
    refine ⟨vs[i], ?_⟩
    rw [e0, List.getElem?_append_left (by simpa using hv), List.getElem?_map, List.getElem?_eq_getElem hv]
    rfl
  · have := hpv p hp
    obtain ⟨hv, _⟩ := List.getElem?_eq_some_iff.mp this
    rw [e0, List.getElem?_append_left (by simpa using hv), List.getElem?_map, this]
    rfl
end
end Fi
/-! The whole program by levels. -/
namespace Fi
open PySem PySem.Spec PyProof.Rows L2 RZ
/-- a def of the text -/
structure Df where
  x : Str
  st : Stmt
  ps : List Str
  N : List Str
  own : List Bool
  prot : List Nat
def fuelE : Nat := 60
def fuelS : Nat := 400
def Df.core (tb : Tb) (d : Df) : Fd := ⟨d.ps.length, d.N.length, d.prot, convSs tb d.N (defScope d.st) d.prot fuelE fuelS (defBody d.st)⟩
/-- what the module's head gives -/
structure Hd (P : Program) (w : World) (K : PySem.W.Frag) (mg : Str → Option Value) (base : Heap) (tb : Tb) (ds : List Df) (fa : Nat → Addr) : Prop where
  len : tb.fns.length = ds.length
  row : ∀ g d, ds[g]? = some d → ∃ fl fd, tb.fns[g]? = some (d.x, fl) ∧ fl.length = d.ps.length ∧ Fun K d.x d.x d.st (fa g) fd ∧ mg d.x = some (.ref (fa g)) ∧ Binds K fd d.ps [] ∧ FnScope d.N d.ps (defScope d.st) ∧ d.prot.all (fun j => decide (j < d.ps.length)) = true ∧ ∀ m ks pm, (g, m, ks, pm) ∈ tb.kws → KwOk K fd d.ps ks m pm
  kwin : ∀ g m ks pm, (g, m, ks, pm) ∈ tb.kws → g < ds.length
  cst : ∀ x d, (x, d) ∈ tb.cst → ∃ u v, mg x = some u ∧ RelV v u ∧ ∀ D H, Dq K D H d v
  fre : ∀ x ∈ freeN, mg x = none
  sys : (K.lookup sysModules).isSome = true
  dct : ∀ x kvs, (x, kvs) ∈ tb.dct → ∃ p, mg x = some (.ref p) ∧ DctK K w K p kvs
section
variable {P : Program} {w : World} {K : PySem.W.Frag} {mg : Str → Option Value} {base : Heap} {tb : Tb} {ds : List Df} {fa : Nat → Addr}
abbrev Fl (tb : Tb) (ds : List Df) (l : Nat) : Nat → List U → Cr := Fn (ds.map (Df.core tb)) l
/-- the defs keep their word at a level -/
def KpL (P : Program) (w : World) (K : PySem.W.Frag) (mg : Str → Option Value) (base : Heap) (tb : Tb) (ds : List Df) (fa : Nat → Addr) (l : Nat) : Prop := ∀ g d, ds[g]? = some d → ∀ fd, Fun K d.x d.x d.st (fa g) fd → FnG P w K mg base (60 + l) (fa g) fd d.ps (spC K mg fa (Fl tb ds l) g d.ps.length)
theorem fn_ar {l g : Nat} {us : List U} (h : Fl tb ds l g us ≠ .no) : ∃ d, ds[g]? = some d ∧ us.length = d.ps.length := by
  cases l with
  | zero => exact absurd rfl h
  | succ l =>
    have h : callB (ds.map (Df.core tb)) (Fl tb ds l) g us ≠ .no := h
    unfold callB at h
    rw [List.getElem?_map] at h
    cases q : ds[g]? with
    | none => rw [q] at h; exact absurd rfl h
    | some d =>
      rw [q] at h
      refine ⟨d, rfl, ?_⟩
      by_cases hl : us.length = d.ps.length
      · exact hl
      · have h : (if us.length = d.ps.length then _ else Cr.no) ≠ .no := h
        rw [if_neg hl] at h
        exact absurd rfl h
theorem kpL (hd : Hd P w K mg base tb ds fa) : ∀ l, KpL P w K mg base tb ds fa l
  | 0 => fun g d hg fd F => ⟨fun xs H Q E ⟨us, R, h1, h2, _⟩ => h2, fun A l s H ar us xs Q E _ _ _ _ _ ⟨us', R, _, _, _, _, _, h⟩ => h.elim⟩
  | l + 1 => fun g d hg fd F => by
    obtain ⟨fl, fd0, h1, h2, F0, h4, h5, h6, h7, h8⟩ := hd.row g d hg
    refine fng (k := 60 + l) F h6 (fun xs H Q E ⟨us, R, h1, h2, _⟩ => h2) fun cd A L s H xs Q E room noG ⟨us, R, n1, n2, nb, nr, rel, h⟩ => ?_
    let S : Sur := ⟨K, mg, fa, d.prot.filterMap fun j => (xs[j]?).map fun v => (j, v), Fl tb ds l, fun cls dd _ H => E cls dd H⟩
    have hS : At (cxG P w K mg base d.N d.x d.st (fa g) cd A L s H E) S tb (60 + l) d.N (defScope d.st) :=
      { n := rfl, nd := h6.nd, sc := rfl, K := rfl, calm := rfl, gd := noG, rm := room, hi := by omega, tk := takes_of rfl rfl rfl rfl, sys := hd.sys
        fn := fun g2 x fl2 q => by
          have hlt : g2 < ds.length := by rw [← hd.len]; exact (List.getElem?_eq_some_iff.mp q).1
          have hg2 : ds[g2]? = some ds[g2] := List.getElem?_eq_getElem hlt
          obtain ⟨fl', fd', r1, r2, r3, r4, r5, r6, r7, r8⟩ := hd.row g2 _ hg2
          rw [r1] at q
          cases q
          exact ⟨r4, ⟨fd', _, r2 ▸ kpL hd l g2 _ hg2 fd' r3, r5⟩, r3.kp⟩
        ar := fun g2 us2 q => by
          obtain ⟨d2, e1, e2⟩ := fn_ar q
          obtain ⟨fl', fd', r1, r2, _⟩ := hd.row g2 d2 e1
          exact ⟨_, fl', r1, e2.trans r2.symm⟩
        cst := hd.cst
        kw := fun g2 m ks pm q => by
          have hg2 : ds[g2]? = some (ds[g2]'(hd.kwin g2 m ks pm q)) := List.getElem?_eq_getElem _
          obtain ⟨fl', fd', r1, r2, r3, r4, r5, r6, r7, r8⟩ := hd.row g2 _ hg2
          exact ⟨_, fl', r1, ⟨fd', _, r2 ▸ kpL hd l g2 _ hg2 fd' r3, r8 m ks pm q⟩, r3.kp, (r8 m ks pm q).pm⟩
        fre := hd.fre
        dct := hd.dct }
    have hA : AtS (cxG P w K mg base d.N d.x d.st (fa g) cd A L s H E) S tb (60 + l) d.N (defScope d.st) d.prot :=
      ⟨hS, passes_of rfl, fun _ => rfl, fun p hp => by
        obtain ⟨j, hj, e⟩ := List.mem_filterMap.mp hp
        obtain ⟨v, _, e2⟩ := ofn e
        rw [← e2]; exact hj⟩
    refine ⟨lSs S (convSs tb d.N (defScope d.st) d.prot fuelE fuelS (defBody d.st)), convSs_ok hA _ _, ?_⟩
    have hm : (Df.core tb d).m = d.N.length := rfl
    have hn : (Df.core tb d).n = d.ps.length := rfl
    have hpv : ∀ p ∈ S.pv, xs[p.1]? = some p.2 := fun p hp => by
      obtain ⟨j, hj, e⟩ := List.mem_filterMap.mp hp
      obtain ⟨v, h1, e2⟩ := ofn e
      rw [← e2]; exact h1
    have hpv2 : ∀ j ∈ d.prot, ∀ v, xs[j]? = some v → (j, v) ∈ S.pv := fun j hj v hv => List.mem_filterMap.mpr ⟨j, hj, by rw [hv]; rfl⟩
    have hin := enter (S := S) (N := d.N) (d := Df.core tb d) (us := us) (vs := xs) (n1.trans n2.symm) n1 hm hpv nr rel
    refine ⟨R, _, nr, hin, ?_⟩
    -- how the body ends
    have h : match callB (ds.map (Df.core tb)) (Fl tb ds l) g us with
      | .ok u os => ∀ v H', isB u = false → os.length = d.ps.length → nbs os = true → Rel K fa H' ((u, v) :: (os.zip xs ++ R)) → Q v H'
      | .ex x os => ∀ cls d' H', os.length = d.ps.length → nbs os = true → XR K mg fa H' x cls d' (os.zip xs ++ R) → E cls d' H'
      | .no => False := h
    unfold callB at h
    rw [List.getElem?_map, hg] at h
    have h : match (if us.length = d.ps.length then (match exSs (Fl tb ds l) (Df.core tb d).body (us.map some ++ List.replicate ((Df.core tb d).m - (Df.core tb d).n) none) with
        | .nx e => Cr.ok (.d .none) (outs (Df.core tb d) e)
        | .rt u e => if okU u = true then .ok u (outs (Df.core tb d) e) else .no
        | .ex x e => .ex x (outs (Df.core tb d) e)
        | _ => .no) else .no) with
      | .ok u os => ∀ v H', isB u = false → os.length = d.ps.length → nbs os = true → Rel K fa H' ((u, v) :: (os.zip xs ++ R)) → Q v H'
      | .ex x os => ∀ cls d' H', os.length = d.ps.length → nbs os = true → XR K mg fa H' x cls d' (os.zip xs ++ R) → E cls d' H'
      | .no => False := h
    rw [if_pos n1] at h
    show sgo S R { nx := fun _ H2 => Q .non H2, rt := Q } (exSs S.F (Df.core tb d).body (us.map some ++ List.replicate ((Df.core tb d).m - (Df.core tb d).n) none))
    have out1 : ∀ {u : U} {v : V} {σ : L2.St} {H2 : Hp} {e : Env}, S.fr H2 ((u, v) :: R) e σ → Rel K fa H2 ((u, v) :: ((outs (Df.core tb d) e).zip xs ++ R)) := fun f => (leave (d := Df.core tb d) (vs := xs) hpv2 n2 f).perm List.perm_middle
    cases q : exSs (Fl tb ds l) (Df.core tb d).body (us.map some ++ List.replicate ((Df.core tb d).m - (Df.core tb d).n) none) with
    | nx e =>
      rw [q] at h
      exact fun σ H2 f => h .non H2 rfl (outs_len _ _) (outs_nb _ _) (out1 f.non)
    | rt u e =>
      rw [q] at h
      simp only at h
      by_cases ho : okU u = true
      · rw [if_pos ho] at h
        exact fun v σ H2 f => h v H2 (okU_nb ho) (outs_len _ _) (outs_nb _ _) (out1 f)
      · rw [if_neg ho] at h
        exact h.elim
    | ex x e =>
      rw [q] at h
      intro cls d' σ H2 k
      refine h cls d' H2 (outs_len _ _) (outs_nb _ _) ?_
      obtain ⟨k1, k2⟩ := k
      refine ⟨k1, ?_⟩
      cases qf : x.fld with
      | none =>
        rw [qf] at k2
        exact ⟨k2.1, (out1 k2.2.non).tail⟩
      | some p =>
        rw [qf] at k2
        obtain ⟨dx, v, e1, e2, f⟩ := k2
        exact ⟨dx, v, e1, e2, out1 f⟩
    | bk e => rw [q] at h; exact h.elim
    | ct e => rw [q] at h; exact h.elim
    | no => rw [q] at h; exact h.elim
end
end Fi
/-! The law's one call. -/
namespace Fi
open PySem PySem.Spec PyProof.Rows L2
/-! ### the head: the def of the law at its one caller -/
def scr (a : Addr) (o : Obj) (xs : List V) : Hp := fun b => if b = a then some (.frz o (.lst xs)) else none
theorem scr_at {a : Addr} {o : Obj} {xs : List V} : scr a o xs a = some (.frz o (.lst xs)) := if_pos rfl
theorem scr_off {a b : Addr} {o : Obj} {xs : List V} (h : b ≠ a) : scr a o xs b = none := if_neg h
section
variable {P : Program} {w : World} {K : PySem.W.Frag} {mg mb : Str → Option Value} {k : Nat} {fa a : Addr} {s : Shared} {H : Hp} {vs : List Value} {ns : List Int}
/-- the base behind what is tracked -/
theorem env0_of (KX : K.In s.heap) (hns : s.heap.Ns mainGlobals mg) (hb : s.heap.Ns builtinsNs mb) (hbb : ∀ x : Str, x ≠ "__name__" → mb x = bootBuiltins x) (hlim : s.heap.NoLimit) (hg : s.gens = #[])
    (ha : s.heap.get? a = some { cls := .type "list", data := .seq vs.toArray }) (hok : HOk P w H s.heap) (hA : ∀ b, H b ≠ none → b = a) (hK : H a ≠ none → K.lookup a = none) : K.In (hidT s.heap H) ∧ (hidT s.heap H).Ns mainGlobals mg ∧ Env0 P w K mg (hidT s.heap H) callerA [] s H := by
  have off : ∀ b, b ≠ a → H b = none := by
    intro b hb'
    cases e : H b with
    | none => rfl
    | some u => exact absurd (hA b (by rw [e]; simp)) hb'
  have dict : ∀ (b : Addr) (o : Obj) (es : Array DictEntry) (n : Nat), s.heap.get? b = some o → o.data = .dict es n → H b = none := by
    intro b o es n e hd
    apply off
    intro e2
    subst e2
    have eo := Option.some.inj (ha.symm.trans e)
    subst eo
    exact absurd hd (fun z => by cases z)
  have ns' : ∀ (b : Addr) (m : Str → Option Value), s.heap.Ns b m → (hidT s.heap H).Ns b m := by
    intro b m h
    obtain ⟨o, es, n, e, hd, r⟩ := h
    exact ⟨o, es, n, hidT_get e (dict b o es n e hd), hd, r⟩
  have kin : K.In (hidT s.heap H) := by
    intro b o e
    apply hidT_get (KX b o e)
    by_cases hb' : b = a
    · subst hb'
      cases e2 : H b with
      | none => rfl
      | some u =>
        have z := hK (by rw [e2]; simp)
        rw [e] at z
        cases z
    · exact off b hb'
  have lim : (hidT s.heap H).NoLimit := by
    obtain ⟨mc, h1, h2⟩ := hlim
    exact ⟨mc, ns' _ mc h1, h2⟩
  refine ⟨kin, ns' _ _ hns, ?_⟩
  constructor
  · rfl
  · exact ⟨kin, ns' _ _ hns, ⟨mb, ns' _ _ hb, hbb⟩, lim⟩
  · exact fun b o e => of_hidT e
  · exact Nat.le_of_eq (hidT_size _ _)
  · exact trivial
  · intro b hb'
    cases hb'
  · exact hok
  · exact .of_eq hg
theorem law_told (KX : K.In s.heap) (hns : s.heap.Ns mainGlobals mg) (hb : s.heap.Ns builtinsNs mb) (hbb : ∀ x : Str, x ≠ "__name__" → mb x = bootBuiltins x) (hlim : s.heap.NoLimit) (hg : s.gens = #[])
    (ha : s.heap.get? a = some { cls := .type "list", data := .seq vs.toArray }) (hi : IntsAre vs ns) (hl : ns.length ≤ sizeLine)
    (F : ∀ (base : Heap) (H : Hp), K.In base → base.Ns mainGlobals mg → Env0 P w K mg base callerA [] s H → Only H → SqL K H a (ns.map V.int) → codeAny (model P w) callerA (.call (.ref fa) ⟨[.ref a], []⟩) (CR CX0 [] P w H s (fun v _ => v = .bl true) fun _ _ _ => False) s) :
    codeAny (model P w) callerA (.call (.ref fa) ⟨[.ref a], []⟩) (fun r s' => r = .ok (.ret (.bool true)) ∧ OldK s.heap s'.heap ∧ s'.os = s.os ∧ AllBare s'.gens) s := by
  have rv := vals_ints hi
  have go : ∀ H : Hp, Only H → SqL K H a (ns.map V.int) → HOk P w H s.heap → (∀ b, H b ≠ none → b = a) → (H a ≠ none → K.lookup a = none) → codeAny (model P w) callerA (.call (.ref fa) ⟨[.ref a], []⟩) (fun r s' => r = .ok (.ret (.bool true)) ∧ OldK s.heap s'.heap ∧ s'.os = s.os ∧ AllBare s'.gens) s := by
    intro H hO hS hok hA hK
    obtain ⟨e1, e2, e0⟩ := env0_of (mg := mg) KX hns hb hbb hlim hg ha hok hA hK
    refine codeAny_mono (F _ H e1 e2 e0 hO hS) ?_
    intro r s' h
    match r, h with
    | .ok (.ret u), ⟨v, H', os, bare, un, hok', r', q⟩ =>
      have q' : v = .bl true := q
      subst q'
      have eu : u = Value.bool true := r'
      subst eu
      refine ⟨rfl, OldK.of_keep ?_, os, bare⟩
      intro b o e
      rcases hO b with hn | ⟨ob, xs, hf⟩
      · exact un.keep b o e hn (by intro z; cases z) (by intro z; cases z)
      · have z1 := (hok b _ hf).1
        have z2 := (hok' b _ (un.frzs b ob _ hf)).1
        rw [← e, z1]
        exact z2
  cases hk : K.lookup a with
  | none =>
    refine go (scr a { cls := .type "list", data := .seq vs.toArray } (ns.map V.int)) ?_ ?_ ?_ ?_ (fun _ => hk)
    · intro b
      by_cases e : b = a
      · subst e; exact .inr ⟨_, _, scr_at⟩
      · exact .inl (scr_off e)
    · exact .inl (.inr ⟨_, scr_at⟩)
    · intro b u hu
      by_cases e : b = a
      · subst e
        rw [scr_at] at hu
        have hu := (Option.some.inj hu).symm
        subst hu
        exact ⟨ha, by rw [List.length_map]; exact hl, vs, _, rv, ha⟩
      · rw [scr_off e] at hu
        cases hu
    · intro b hn
      by_cases e : b = a
      · exact e
      · exact absurd (scr_off e) hn
  | some o =>
    have e := KX a o hk
    rw [ha] at e
    have e := (Option.some.inj e).symm
    subst e
    refine go (fun _ => none) (fun _ => .inl rfl) (.inr ⟨_, vs.toArray, _, hk, rfl, rfl, rfl, ?_, ?_⟩) ?_ ?_ ?_
    · rw [List.size_toArray, hi.length]
      exact hl
    · simpa using rv
    · intro b u z
      cases z
    · intro b z
      exact absurd rfl z
    · intro z
      exact absurd rfl z
end
section
variable {P : Program} {w : World} {K : PySem.W.Frag} {mg : Str → Option Value} {base : Heap} {tb : Tb} {ds : List Df} {fa : Nat → Addr}
theorem room30 : Room (60 + 30) callerA := ⟨rfl, by decide, by decide⟩
theorem law_run (hd : Hd P w K mg base tb ds fa) {g : Nat} {d : Df} (hg : ds[g]? = some d) (hps : d.ps.length = 1) {s : Shared} {H : Hp} {a : Addr} {ns : List Int} (e0 : Env0 P w K mg base callerA [] s H) (hO : Only H) (hS : SqL K H a (ns.map V.int))
    (goal : ∃ os, Fl tb ds 30 g [.s ns] = .ok (.d (.bool true)) os) : codeAny (model P w) callerA (.call (.ref (fa g)) ⟨[.ref a], []⟩) (CR CX0 [] P w H s (fun v _ => v = .bl true) fun _ _ _ => False) s := by
  obtain ⟨fl, fd, h1, h2, F, h4, h5, h6, h7, h8⟩ := hd.row g d hg
  have hF := kpL hd 30 g d hg fd F
  have hf : SqF K H a (ns.map V.int) := by
    rcases hS with (h | h) | h
    · rcases hO a with n | ⟨o, xs, e⟩
      · rw [n] at h; cases h
      · rw [e] at h; cases h
    · exact .inl h
    · exact .inr h
  have inK : K.In s.heap := e0.mod.kin.keeps fun b o e => (e0.bs b o e).1
  have hb := h5 s [.ref a] inK (by rw [List.append_nil]; exact hps.symm)
  rw [List.append_nil] at hb
  obtain ⟨os, hgo⟩ := goal
  have want : spC K mg fa (Fl tb ds 30) g d.ps.length [.ref a] H (fun v _ => v = .bl true) (fun _ _ _ => False) := by
    refine ⟨[.s ns], [], hps.symm, hps.symm, rfl, rfl, ⟨[], List.nodup_nil, [], [], rfl, ⟨rfl, a, rfl, hf⟩, rfl⟩, ?_⟩
    rw [hgo]
    intro v H' _ _ _ r
    obtain ⟨D, hq⟩ := r.d
    unfold Dq at hq
    exact hq
  refine codeAny_mono (hF.go callerA [] s H ⟨[.ref a], []⟩ [.ref a] [.ref a] _ _ room30 rfl e0 hb (.cons rfl .nil) want) fun r s' q => ?_
  cases r with
  | error e =>
    obtain ⟨_, _, _, _, _, _, _, _, _, _, _, _, z⟩ := q
    exact z.elim
  | ok fl =>
    cases fl with
    | ret u => exact q
    | _ => exact q
end
end Fi
/-! The head, by facts. -/
namespace Fi
open PySem PySem.Spec PyProof.Rows L2
/-! ### the head by facts: the part of the heap that the module's names reach, and sys.modules -/
abbrev KG (n : Nat) (g : Addr → Option Obj) : PySem.W.Frag := He.frG g (sysModules :: He.asD g n)
abbrev FiA : Type := He.AlD × Bool
def obsA (n : Nat) (fa : List He.Fa) (fn : List He.DefD) (ex : PySem.W.Frag → Bool) (g : Addr → Option Obj) : FiA := (He.obsD fa fn (KG n g), ex (KG n g))
structure SaysA (fa : List He.Fa) (fn : List He.DefD) (ex : PySem.W.Frag → Bool) (K : PySem.W.Frag) : Prop where
  d : He.SaysD fa fn K
  e : ex K = true
def hookA (n : Nat) (fa : List He.Fa) (fn : List He.DefD) (ex : PySem.W.Frag → Bool) : PySem.W.Hook where
  α := FiA
  obs := fun s => obsA n fa fn ex s.heap.get?
  val := fun _ => (He.valD fn, true)
  says := fun _ h => ∃ K : PySem.W.Frag, K.In h ∧ SaysA fa fn ex K
  of := fun _ _ e => ⟨_, He.frG_in, ⟨congrArg (fun z : FiA => z.1) e, congrArg (fun z : FiA => z.2) e⟩⟩
  keeps := fun _ _ _ ⟨K, hK, c⟩ k => ⟨K, PySem.W.Frag.In.keeps hK k, c⟩
theorem obsA_eq {n : Nat} {fa : List He.Fa} {fn : List He.DefD} {ex : PySem.W.Frag → Bool} {g : Addr → Option Obj} {s : Shared} (h : ∀ a, g a = s.heap.get? a) : obsA n fa fn ex g = (hookA n fa fn ex).obs s := by
  have e : g = s.heap.get? := funext h
  rw [e] <;> rfl
/-! ### facts -/
theorem FunD.fun {K : PySem.W.Frag} {x q : Str} {st : Stmt} {f : Addr} {fd : FuncData} (F : FunD K x q (defArgs st) (defBody st) (defScope st) [] [] f fd) : Fun K x q st f fd := by
  obtain ⟨oc, od, dV, kV, doc, pm, an, cdv, ct, osl, e, lk, hcd, hd, _⟩ := F.ex
  have : dV = .none := by
    rcases hd with ⟨_, h⟩ | ⟨h, _⟩
    · exact h
    · exact absurd rfl h
  subst this
  exact ⟨⟨oc, od, kV, doc, pm, an, cdv, ct, osl, e, lk, hcd⟩, F.kp⟩
def mkD (x : Str) (st : Stmt) : He.DefD := ⟨(x, none), x, x, defArgs st, defBody st, defScope st, [], []⟩
def mkM (C m q : Str) (st : Stmt) : He.DefD := ⟨(C, some m), m, q, defArgs st, defBody st, defScope st, [], []⟩
section
variable {K : PySem.W.Frag} {h : Heap} {mg : Str → Option Value} {fa : List He.Fa} {fn : List He.DefD} {ex : PySem.W.Frag → Bool}
theorem he_fact (c : SaysA fa fn ex K) (i : Nat) {f : He.Fa} (h : fa[i]? = some f := by rfl) : f.ok K = true := c.d.fact i h
theorem he_fun (c : SaysA fa fn ex K) (i : Nat) {x : Str} {st : Stmt} (e : fn[i]? = some (mkD x st)) : ∃ fd, Fun K x x st (He.ga K x) fd := by
  obtain ⟨fd, F⟩ := c.d.def_ i e
  exact ⟨fd, FunD.fun F⟩
theorem Fun.bindsTo {x q : Str} {st : Stmt} {f : Addr} {fd : FuncData} (F : Fun K x q st f fd) {args : Args} {ps : List (Str × Value)} (hb : ∀ (kV doc pm : Value) (an : Option Addr) (cdv ct : Value), bindArgs (PySem.W.fnOf x q (defArgs st) (defBody st) (defScope st) .none kV doc pm an cdv ct) args = pure ps) (s : Shared) : BindsTo s fd args ps := by
  obtain ⟨oc, od, kV, doc, pm, an, cdv, ct, osl, rfl, lk, hcd⟩ := F.ex
  exact .of_eq (hb kV doc pm an cdv ct)
theorem he_int (X : K.In h) (G : h.Ns mainGlobals mg) (c : SaysA fa fn ex K) (j : Nat) {x : Str} {i : Int} (g : fa[j]? = some (.int x i)) : ∃ u, mg x = some u ∧ RelV (.int i) u := by
  obtain ⟨t, e⟩ := He.int_ok X G (he_fact c j g)
  exact ⟨_, e, t, rfl⟩
theorem he_str (X : K.In h) (G : h.Ns mainGlobals mg) (c : SaysA fa fn ex K) (j : Nat) {x z : Str} (g : fa[j]? = some (.str x z)) : ∃ u, mg x = some u ∧ RelV (.str z) u := by
  obtain ⟨t, e⟩ := He.str_ok X G (he_fact c j g)
  exact ⟨_, e, t, rfl⟩
/-- a list of Bools, all true -/
theorem exs {l : List Bool} (h : l.all id = true) (i : Nat) {b : Bool} (e : l[i]? = some b) : b = true := List.all_eq_true.mp h b (List.mem_of_getElem? e)
def sysB (K : PySem.W.Frag) : Bool := (K.lookup sysModules).isSome
end
end Fi
/-! The head, by facts: constants, dicts of the module. -/
namespace Fi
open PySem PySem.Spec PyProof.Rows L2
abbrev FiB : Type := He.AlT × Bool
def obsB (n : Nat) (fa : List He.Fa) (fn : List He.DefD) (ts : List He.Tab) (ex : PySem.W.Frag → Bool) (g : Addr → Option Obj) : FiB := (He.obsT fa fn ts (KG n g), ex (KG n g))
structure SaysB (fa : List He.Fa) (fn : List He.DefD) (ts : List He.Tab) (ex : PySem.W.Frag → Bool) (w : World) (K : PySem.W.Frag) : Prop where
  t : He.SaysT fa fn ts w K
  e : ex K = true
def hookB (n : Nat) (fa : List He.Fa) (fn : List He.DefD) (ts : List He.Tab) (ex : PySem.W.Frag → Bool) : PySem.W.Hook where
  α := FiB
  obs := fun s => obsB n fa fn ts ex s.heap.get?
  val := fun w => (He.valT fn ts w, true)
  says := fun w h => ∃ K : PySem.W.Frag, K.In h ∧ SaysB fa fn ts ex w K
  of := fun _ _ e => ⟨_, He.frG_in, ⟨congrArg (fun z : FiB => z.1) e, congrArg (fun z : FiB => z.2) e⟩⟩
  keeps := fun _ _ _ ⟨K, hK, c⟩ k => ⟨K, PySem.W.Frag.In.keeps hK k, c⟩
theorem obsB_eq {n : Nat} {fa : List He.Fa} {fn : List He.DefD} {ts : List He.Tab} {ex : PySem.W.Frag → Bool} {g : Addr → Option Obj} {s : Shared} (h : ∀ a, g a = s.heap.get? a) : obsB n fa fn ts ex g = (hookB n fa fn ts ex).obs s := by
  have e : g = s.heap.get? := funext h
  rw [e] <;> rfl
/-! ### constants -/
mutual
def cstB (K : PySem.W.Frag) : PyData → Value → Bool
  | .none, .none => true
  | .bool b, .bool c => b == c
  | .int i, .int j _ => decide (i = j)
  | .str x, .str y _ => decide (x = y)
  | .tuple ds, .ref a => (match K.lookup a with
    | some ⟨.type c, _, .seq its _, _⟩ => decide (c = "tuple") && (decide (its.size ≤ sizeLine) && cstBL K ds its.toList)
    | _ => false)
  | _, _ => false
def cstBL (K : PySem.W.Frag) : List PyData → List Value → Bool
  | [], [] => true
  | d :: ds, u :: us => cstB K d u && cstBL K ds us
  | _, _ => false
end
section
variable {K : PySem.W.Frag}
mutual
theorem cstB_ok : ∀ {d : PyData} {u : Value}, cstB K d u = true → ∃ v, RelV v u ∧ ∀ D H, Dq K D H d v
  | .none, u, h => by
    unfold cstB at h
    split at h <;> first | (cases h; done) | skip
    all_goals first | exact ⟨.non, rfl, fun D H => by unfold Dq; rfl⟩ | (rename_i e _; cases e) | skip
    all_goals simp_all
  | .bool b, u, h => by
    cases u with
    | bool c =>
      unfold cstB at h
      have : b = c := by simpa using h
      exact ⟨.bl b, by rw [this]; rfl, fun D H => by unfold Dq; rfl⟩
    | _ => simp [cstB] at h
  | .int i, u, h => by
    cases u with
    | int j t =>
      unfold cstB at h
      have := of_decide_eq_true h
      exact ⟨.int i, ⟨t, by rw [this]⟩, fun D H => by unfold Dq; rfl⟩
    | _ => simp [cstB] at h
  | .str x, u, h => by
    cases u with
    | str y t =>
      unfold cstB at h
      have := of_decide_eq_true h
      exact ⟨.str x, ⟨t, by rw [this]⟩, fun D H => by unfold Dq; rfl⟩
    | _ => simp [cstB] at h
  | .list ds, u, h => by simp [cstB] at h
  | .dict ds, u, h => by simp [cstB] at h
  | .tuple ds, u, h => by
    cases u with
    | ref a =>
      unfold cstB at h
      cases q : K.lookup a with
      | none => rw [q] at h; cases h
      | some o =>
        obtain ⟨oc, od, dt, osl⟩ := o
        rw [q] at h
        cases oc with
        | type c =>
          cases dt with
          | seq its n =>
            obtain ⟨h1, h2⟩ := He.ba (show (decide (c = "tuple") && (decide (its.size ≤ sizeLine) && cstBL K ds its.toList)) = true from h)
            obtain ⟨h3, h4⟩ := He.ba h2
            obtain ⟨xs, hv, hq⟩ := cstBL_ok h4
            refine ⟨.ref a, rfl, fun D H => ?_⟩
            unfold Dq
            exact ⟨a, xs, rfl, .inr ⟨_, its, n, q, congrArg Value.type (of_decide_eq_true h1), rfl, of_decide_eq_true h3, hv⟩, hq D H⟩
          | _ => cases h
        | _ => cases dt <;> cases h
    | _ => simp [cstB] at h
theorem cstBL_ok : ∀ {ds : List PyData} {us : List Value}, cstBL K ds us = true → ∃ xs, Vals xs us ∧ ∀ D H, DqL K D H ds xs
  | [], us, h => by
    cases us with
    | nil => exact ⟨[], .nil, fun D H => by unfold DqL; rfl⟩
    | cons u us => simp [cstBL] at h
  | d :: ds, us, h => by
    cases us with
    | nil => simp [cstBL] at h
    | cons u us =>
      unfold cstBL at h
      obtain ⟨h1, h2⟩ := He.ba h
      obtain ⟨v, r, q⟩ := cstB_ok h1
      obtain ⟨xs, rs, qs⟩ := cstBL_ok h2
      exact ⟨v :: xs, .cons r rs, fun D H => by unfold DqL; exact ⟨v, xs, rfl, q D H, qs D H⟩⟩
end
/-- the module's name x is this constant -/
def cstG (K : PySem.W.Frag) (p : Str × PyData) : Bool := match PySem.W.nsIn K mainGlobals p.1 with
  | some (some u) => cstB K p.2 u
  | _ => false
theorem cstG_ok {h : Heap} {mg : Str → Option Value} (X : K.In h) (G : h.Ns mainGlobals mg) {l : List (Str × PyData)} (hl : l.all (cstG K) = true) : ∀ x d, (x, d) ∈ l → ∃ u v, mg x = some u ∧ RelV v u ∧ ∀ D H, Dq K D H d v := fun x d m => by
  have h2 := List.all_eq_true.mp hl _ m
  unfold cstG at h2
  cases e : PySem.W.nsIn K mainGlobals x with
  | none => simp only [e] at h2; cases h2
  | some r =>
    cases r with
    | none => simp only [e] at h2; cases h2
    | some u =>
      simp only [e] at h2
      obtain ⟨v, r, q⟩ := cstB_ok h2
      exact ⟨u, v, PySem.W.mg_of X G e, r, q⟩
/-! ### dicts -/
def valsC (K : PySem.W.Frag) (p : Addr) (kvs : List (Str × PyData)) : Bool := kvs.all fun q => match PySem.W.nsIn K p q.1 with
  | some (some u) => cstB K q.2 u
  | _ => false
theorem tabEq {fa : List He.Fa} {fn : List He.DefD} {ts : List He.Tab} {w : World} (c : He.SaysT fa fn ts w K) (i : Nat) {t : He.Tab} (h : ts[i]? = some t) : He.dicW K (t.1 K) = some (He.keysIn w.params t.2) := by
  have e : ts.map (fun t => He.dicW K (t.1 K)) = ts.map fun t => some (He.keysIn w.params t.2) := congrArg (fun z : He.AlT => z.2) c
  have e2 : (ts.map fun t => He.dicW K (t.1 K))[i]? = (ts.map fun t => some (He.keysIn w.params t.2))[i]? := by rw [e]
  rw [List.getElem?_map, List.getElem?_map, h] at e2
  exact Option.some.inj e2
theorem keys_miss {P : Params} {z : Str} : ∀ {l : List DictEntry} {ks : List Str}, l.map He.keyOf = He.keysIn P ks → z ∉ ks → l.find? (·.key.isStr z) = none ∧ l.any (·.refKey) = false
  | [], _, _, _ => ⟨rfl, rfl⟩
  | e :: r, [], h, _ => by cases h
  | e :: r, k :: ks, h, hz => by
    have h1 : He.keyOf e :: r.map He.keyOf = some (k, PyData.keyHash P k) :: He.keysIn P ks := h
    injection h1 with h2 h3
    obtain ⟨i1, i2⟩ := keys_miss h3 fun m => hz (List.mem_cons_of_mem _ m)
    unfold He.keyOf at h2
    split at h2
    · rename_i x t q
      have h4 := Option.some.inj h2
      obtain ⟨h5, h6⟩ := Prod.mk.inj h4
      subst h5
      have hx : x ≠ z := fun e => hz (by rw [e]; exact List.mem_cons_self)
      refine ⟨?_, ?_⟩
      · rw [List.find?_cons, i1]
        have : e.key.isStr z = false := by rw [q]; simp [Value.isStr, hx]
        rw [this]
      · rw [List.any_cons, i2, Bool.or_false]
        unfold DictEntry.refKey
        rw [q]
    · cases h2
theorem look_none : ∀ {kvs : List (Str × PyData)} {z : Str}, lookC kvs z = none → z ∉ kvs.map (·.1)
  | [], _, _, m => by cases m
  | p :: r, z, h, m => by
    unfold lookC at h
    split at h
    · cases h
    · rename_i hp
      rcases List.mem_cons.mp m with q | q
      · exact hp q.symm
      · exact look_none h q
theorem dctK_of {fa : List He.Fa} {fn : List He.DefD} {ts : List He.Tab} {w : World} (c : He.SaysT fa fn ts w K) (i : Nat) {t : He.Tab} {kvs : List (Str × PyData)} (h : ts[i]? = some t) (hk : t.2 = kvs.map (·.1)) (hv : valsC K (t.1 K) kvs = true) : DctK K w K (t.1 K) kvs := by
  have e := tabEq c i h
  obtain ⟨es, n, D⟩ := He.dicW_ok e
  refine ⟨es, n, D, fun z => ?_⟩
  cases q : lookC kvs z with
  | some d =>
    have m := lookC_ok q
    have h2 := List.all_eq_true.mp hv _ m
    cases e2 : PySem.W.nsIn K (t.1 K) z with
    | none => simp only [e2] at h2; cases h2
    | some r =>
      cases r with
      | none => simp only [e2] at h2; cases h2
      | some u =>
        simp only [e2] at h2
        obtain ⟨v, r, q⟩ := cstB_ok h2
        exact ⟨u, v, rfl, r, q⟩
  | none =>
    have hz := look_none q
    rw [← hk] at hz
    unfold He.dicW at e
    rw [D.at_] at e
    have e3 : es.toList.map He.keyOf = He.keysIn w.params t.2 := by
      have e4 : (match decide ("dict" = "dict") && ((#[] : Array (Option Value)).isEmpty && !(t.1 K == sysModules)) with
        | true => some (es.toList.map He.keyOf)
        | false => none) = some (He.keysIn w.params t.2) := e
      rw [D.low] at e4
      exact Option.some.inj e4
    obtain ⟨h1, h2⟩ := keys_miss e3 hz
    show PySem.W.nsIn K (t.1 K) z = some none
    unfold PySem.W.nsIn
    rw [D.at_]
    simp only [h1, h2]
    rfl
end
theorem heF {K : PySem.W.Frag} {fa : List He.Fa} {fn : List He.DefD} {ts : List He.Tab} {ex : PySem.W.Frag → Bool} {w : World} (c : SaysB fa fn ts ex w K) (i : Nat) {x : Str} {st : Stmt} (e : fn[i]? = some (mkD x st)) : ∃ fd, Fun K x x st (He.ga K x) fd := by
  obtain ⟨fd, F⟩ := c.t.d.def_ i e
  exact ⟨fd, FunD.fun F⟩
end Fi
/-! The core run with what is wanted behind: expressions. -/
namespace Fi
open PySem PySem.Spec PyProof.Rows L2
abbrev KU := U → Env → Prop
abbrev KX := Xn → Env → Prop
def wR {α : Type} (r : Rs α) (K : α → Env → Prop) (X : KX) : Prop := match r with
  | .ok a e => K a e
  | .ex x e => X x e
  | .no => False
theorem wR_bd {α β : Type} {r : Rs α} {f : α → Env → Rs β} {K : β → Env → Prop} {X : KX} : wR (r.bd f) K X ↔ wR r (fun a e => wR (f a e) K X) X := by cases r <;> exact Iff.rfl
theorem wR_mono {α : Type} {r : Rs α} {K K' : α → Env → Prop} {X X' : KX} (h : wR r K X) (k : ∀ a e, K a e → K' a e) (x : ∀ a e, X a e → X' a e := by exact fun _ _ z => z) : wR r K' X' := by
  cases r with
  | ok a e => exact k a e h
  | ex a e => exact x a e h
  | no => exact h
def kOpt {α : Type} (o : Option α) (K : α → Prop) : Prop := match o with
  | some a => K a
  | none => False
def kBool (b : Bool) (A B : Prop) : Prop := match b with
  | true => A
  | false => B
theorem wR_lift {α : Type} {o : Option α} {e : Env} {K : α → Env → Prop} {X : KX} (h : kOpt o fun a => K a e) : wR (lift o e) K X := by
  cases o with
  | none => exact h.elim
  | some a => exact h
def kGot (a : Option U) (K : U → Prop) : Prop := match a with
  | some u => K u
  | none => False
def kGet : Env → Nat → (U → Prop) → Prop
  | [], _, _ => False
  | a :: _, 0, K => kGot a K
  | _ :: e, n + 1, K => kGet e n K
theorem kGet_ok : ∀ {e : Env} {i : Nat} {K : U → Prop}, kGet e i K → ∃ u, e[i]? = some (some u) ∧ K u
  | [], _, _, h => h.elim
  | some u :: _, 0, _, h => ⟨u, rfl, h⟩
  | none :: _, 0, _, h => h.elim
  | _ :: e, n + 1, _, h => by obtain ⟨u, h1, h2⟩ := kGet_ok (e := e) (i := n) h; exact ⟨u, by simpa using h1, h2⟩
def kSet : Env → Nat → Option U → (Env → Prop) → Prop
  | [], _, _, K => K []
  | _ :: e, 0, v, K => K (v :: e)
  | a :: e, n + 1, v, K => kSet e n v fun e' => K (a :: e')
theorem kSet_ok : ∀ {e : Env} {i : Nat} {v : Option U} {K : Env → Prop}, kSet e i v K → K (e.set i v)
  | [], _, _, _, h => h
  | _ :: _, 0, _, _, h => h
  | a :: e, n + 1, v, K, h => kSet_ok (e := e) (i := n) (K := fun e' => K (a :: e')) h
@[irreducible] def kCall (r : Cr) (K : U → List U → Prop) (X : Xn → List U → Prop) : Prop := match r with
  | .ok u os => K u os
  | .ex x os => X x os
  | .no => False
theorem kCall_mono {r : Cr} {K K' : U → List U → Prop} {X X' : Xn → List U → Prop} (h : kCall r K X) (k : ∀ u os, K u os → K' u os) (x : ∀ u os, X u os → X' u os := by exact fun _ _ z => z) : kCall r K' X' := by
  unfold kCall at h ⊢
  cases r with
  | ok u os => exact k u os h
  | ex u os => exact x u os h
  | no => exact h
def kNb : List U → Prop → Prop
  | [], A => A
  | .b _ :: _, _ => False
  | _ :: us, A => kNb us A
theorem kNb_ok : ∀ {us : List U} {A : Prop}, kNb us A → nbs us = true ∧ A
  | [], _, h => ⟨rfl, h⟩
  | u :: us, A, h => by
    cases u with
    | b i => exact h.elim
    | _ => exact ⟨by have := (kNb_ok (us := us) h).1; simpa [nbs, isB] using this, (kNb_ok (us := us) h).2⟩
def kBackV (c : CE) (u : U) (e : Env) (K : Env → Prop) : Prop := match c with
  | .lt i => (match e[i]? with
    | some none => (match u with
      | .gone => K e
      | u => kSet e i (some u) K)
    | _ => K e)
  | .mv i => (match e[i]? with
    | some none => (match u with
      | .gone => K e
      | u => kSet e i (some u) K)
    | _ => K e)
  | _ => K e
theorem kBackV_ok {c : CE} {u : U} {e : Env} {K : Env → Prop} (h : kBackV c u e K) : K (backV c u e) := by
  unfold kBackV at h
  unfold backV
  cases c with
  | mv i =>
    simp only at h ⊢
    cases q : e[i]? with
    | none => rw [q] at h; exact h
    | some o =>
      cases o with
      | some w => rw [q] at h; exact h
      | none =>
        rw [q] at h
        cases u <;> first | exact h | exact kSet_ok h
  | lt i =>
    simp only at h ⊢
    cases q : e[i]? with
    | none => rw [q] at h; exact h
    | some o =>
      cases o with
      | some w => rw [q] at h; exact h
      | none =>
        rw [q] at h
        cases u <;> first | exact h | exact kSet_ok h
  | _ => exact h
def kGrab : CEs → List U → Env → (List U → Env → Prop) → Prop
  | .cons c es, u :: us, e, K => (match c, u with
    | .lt i, .b j => kBool (Nat.beq i j) (kGet e i fun o => match o with
      | .o x => kSet e i none fun e1 => kGrab es us e1 fun us2 e2 => K (.o x :: us2) e2
      | _ => False) False
    | _, _ => kGrab es us e fun us2 e2 => K (u :: us2) e2)
  | .cons _ _, [], e, K => K [] e
  | .nil, us, e, K => K us e
theorem kGrab_ok : ∀ {es : CEs} {us : List U} {e : Env} {K : List U → Env → Prop}, kGrab es us e K → ∃ us2 e2, grab es us e = some (us2, e2) ∧ K us2 e2
  | .nil, us, e, K, h => ⟨us, e, by cases us <;> rfl, by cases us <;> exact h⟩
  | .cons c es, [], e, K, h => ⟨[], e, by cases c <;> rfl, h⟩
  | .cons c es, u :: us, e, K, h => by
    have plainC : kGrab es us e (fun us2 e2 => K (u :: us2) e2) → grab (.cons c es) (u :: us) e = (grab es us e).map (fun p => (u :: p.1, p.2)) → ∃ us2 e2, grab (.cons c es) (u :: us) e = some (us2, e2) ∧ K us2 e2 := fun h1 h2 => by
      obtain ⟨us2, e2, q, k⟩ := kGrab_ok h1
      exact ⟨_, _, by rw [h2, q]; rfl, k⟩
    cases c with
    | lt i =>
      cases u with
      | b j =>
        have h : kBool (Nat.beq i j) (kGet e i fun o => match o with
          | .o x => kSet e i none fun e1 => kGrab es us e1 fun us2 e2 => K (.o x :: us2) e2
          | _ => False) False := h
        cases hb : Nat.beq i j with
        | false => rw [hb] at h; exact h.elim
        | true =>
        rw [hb] at h
        have h1 := Nat.eq_of_beq_eq_true hb
        have h2 : kGet e i fun o => match o with
          | .o x => kSet e i none fun e1 => kGrab es us e1 fun us2 e2 => K (.o x :: us2) e2
          | _ => False := h
        obtain ⟨o, h3, h4⟩ := kGet_ok h2
        cases o with
        | o x =>
          obtain ⟨us2, e2, q, k⟩ := kGrab_ok (kSet_ok (K := fun e1 => kGrab es us e1 fun us2 e2 => K (.o x :: us2) e2) h4)
          refine ⟨.o x :: us2, e2, ?_, k⟩
          show (if i = j then (match e[i]? with
            | some (some (.o x)) => (grab es us (e.set i none)).map fun p => (U.o x :: p.1, p.2)
            | _ => none) else none) = _
          rw [if_pos h1, h3]
          simp only [q]
          rfl
        | _ => exact h4.elim
      | _ => exact plainC h rfl
    | _ => exact plainC h rfl
def kBack : CEs → List U → Env → (Env → Prop) → Prop
  | .cons c es, u :: us, e, K => kBackV c u e fun e' => kBack es us e' K
  | .cons _ _, [], e, K => K e
  | .nil, _, e, K => K e
theorem kBack_ok : ∀ {es : CEs} {us : List U} {e : Env} {K : Env → Prop}, kBack es us e K → K (back es us e)
  | .cons c es, u :: us, e, K, h => kBack_ok (es := es) (us := us) (kBackV_ok (K := fun e' => kBack es us e' K) h)
  | .cons _ _, [], e, K, h => h
  | .nil, us, e, K, h => by cases us <;> exact h
def kWipe (e : Env) (vs : List Nat) (K : Env → Prop) : Prop := match vs with
  | [] => K e
  | v :: vs => kWipe e vs fun e1 => kSet e1 v none K
theorem kWipe_ok {e : Env} : ∀ {vs : List Nat} {K : Env → Prop}, kWipe e vs K → K (wipeE e vs)
  | [], _, h => h
  | v :: vs, K, h => kSet_ok (kWipe_ok (vs := vs) (K := fun e1 => kSet e1 v none K) h)
def kUpd (f : O → Option (O × U)) (e : Env) (i : Nat) (ks : List PyData) (K : KU) : Prop := kGet e i fun o => match o with
  | .o x => kOpt (x.upd f ks) fun p => kSet e i (some (.o p.1)) fun e' => K p.2 e'
  | _ => False
theorem ownAt_of {e : Env} {i : Nat} {x : O} (h : e[i]? = some (some (.o x))) : ownAt e i = some x := by unfold ownAt; rw [h]
theorem kUpd_ok {f : O → Option (O × U)} {e : Env} {i : Nat} {ks : List PyData} {K : KU} {X : KX} (h : kUpd f e i ks K) : wR (updAt f e i ks) K X := by
  obtain ⟨u, h1, h2⟩ := kGet_ok h
  cases u with
  | o x =>
    unfold updAt
    rw [ownAt_of h1]
    have h2 : kOpt (x.upd f ks) fun p => kSet e i (some (.o p.1)) fun e' => K p.2 e' := h2
    cases q : x.upd f ks with
    | none => rw [q] at h2; exact h2.elim
    | some p =>
      rw [q] at h2
      simp only [q]
      exact kSet_ok (K := fun e' => K p.2 e') h2
  | _ => exact h2.elim
@[irreducible] def kLc (F : Nat → List U → Cr) (x : CE) (t : CT) (ifs : CEs) (vs : List Nat) (xs : List PyData) (e : Env) (K : KU) : Prop :=
  xs.length ≤ most ∧ wR (lcL (fun d e => setT t d e) (fun e => evt F ifs e) (fun e => ev F x e) vs xs [] e) K fun _ _ => False
mutual
def kE (F : Nat → List U → Cr) : CE → Env → KU → KX → Prop
  | .var i, e, K, X => kGet e i fun o => match o with
    | .d x => K (.d x) e
    | .o x => kSet e i (some (.d (frz x))) fun e' => K (.d (frz x)) e'
    | .f k => K (.f k) e
    | .s xs => K (.s xs) e
    | _ => False
  | .pv i, e, K, X => kGet e i fun o => match o with
    | .d x => K (.d x) e
    | .o _ => K (.b i) e
    | .f k => K (.f k) e
    | .s xs => K (.s xs) e
    | _ => False
  | .lt i, e, K, X => kGet e i fun o => match o with
    | .d x => K (.d x) e
    | .o _ => K (.b i) e
    | .f k => K (.f k) e
    | .s xs => K (.s xs) e
    | _ => False
  | .mv i, e, K, X => kGet e i fun o => match o with
    | .d x => K (.d x) e
    | .o x => kSet e i none fun e' => K (.o x) e'
    | .f k => K (.f k) e
    | .s xs => K (.s xs) e
    | _ => False
  | .soft i, e, K, X => kGet e i fun o => match o with
    | .d x => K (.d x) e
    | .o x => (match x with
      | .lst xs => (match flats xs with
        | some _ => K (.b i) e
        | none => kSet e i (some (.d (frz x))) fun e' => K (.d (frz x)) e')
      | _ => kSet e i (some (.d (frz x))) fun e' => K (.d (frz x)) e')
    | .f k => K (.f k) e
    | .s xs => K (.s xs) e
    | _ => False
  | .nve, e, K, X => False
  | .cst x, e, K, X => K (.d x) e
  | .fn k, e, K, X => K (.f k) e
  | .bin op a b, e, K, X => kE F a e (fun x e1 => kE F b e1 (fun y e2 => kOpt (binU op e2 x y) fun z => K z e2) X) X
  | .cmp op a b, e, K, X => kE F a e (fun x e1 => kE F b e1 (fun y e2 => kOpt (cmpU op e2 x y) fun z => K z e2) X) X
  | .cmpP neg i path b, e, K, X => kGet e i fun o => match o with
    | .o x => kP F path e x (fun p e1 => kE F b e1 (fun y e2 => kOpt ((dv e2 y).bind fun d => ((if neg = true then neF (frz p.2) d else eqF (frz p.2) d)).map fun r => U.d (.bool r)) fun z => K z e2) X) X
    | _ => False
  | .chn op op' a b c, e, K, X => kE F a e (fun x e1 => kE F b e1 (fun y e2 => kOpt (cmpU op e2 x y) fun z => match z with
    | .d (.bool v) => kBool v (kE F c e2 (fun w e4 => kOpt (cmpU op' e4 y w) fun z => K z e4) X) (K (.d (.bool false)) e2)
    | _ => False) X) X
  | .neg a, e, K, X => kE F a e (fun x e1 => match x with
    | .d (.int i) => K (.d (.int (-i))) e1
    | _ => False) X
  | .nt a, e, K, X => kE F a e (fun x e1 => match x with
    | .d (.bool b) => K (.d (.bool (!b))) e1
    | _ => False) X
  | .an a b, e, K, X => kE F a e (fun x e1 => match x with
    | .d (.bool v) => kBool v (kE F b e1 K X) (K (.d (.bool false)) e1)
    | _ => False) X
  | .orr a b, e, K, X => kE F a e (fun x e1 => match x with
    | .d (.bool v) => kBool v (K (.d (.bool true)) e1) (kE F b e1 K X)
    | _ => False) X
  | .ife t a b, e, K, X => kE F t e (fun x e1 => match x with
    | .d (.bool v) => kBool v (kE F a e1 K X) (kE F b e1 K X)
    | _ => False) X
  | .tup es, e, K, X => kEs F es e (fun us e1 => kOpt ((datL us).bind fun xs => if xs.length ≤ most then some (U.d (.tuple xs)) else none) fun z => K z e1) X
  | .lst es, e, K, X => kEs F es e (fun us e1 => kOpt ((chL us).bind fun xs => if xs.length ≤ most then some (U.o (.lst xs)) else none) fun z => K z e1) X
  | .dic ps, e, K, X => kEs F ps e (fun us e1 => kOpt ((dicU us).bind fun kvs => if noDup (kvs.map (·.1)) = true ∧ kvs.length ≤ 15 then some (U.o (.dic kvs)) else none) fun z => K z e1) X
  | .sub a i, e, K, X => kE F a e (fun x e1 => kE F i e1 (fun y e2 => kOpt (subU e2 x y) fun z => K z e2) X) X
  | .slc a lo hi, e, K, X => kE F a e (fun x e1 => kEo F lo e1 (fun l e2 => kEo F hi e2 (fun h e3 => kOpt (slcU e3 x l h) fun z => K z e3) X) X) X
  | .rev a, e, K, X => kE F a e (fun x e1 => kOpt (revU e1 x) fun z => K z e1) X
  | .isi a ts, e, K, X => kE F a e (fun x e1 => match ts with
    | [T] => kOpt (isiU e1 x T) fun z => K z e1
    | _ => False) X
  | .bi f es, e, K, X => kEs F es e (fun us e1 => kOpt (biU f e1 us) fun z => K z e1) X
  | .me m a es, e, K, X => kE F a e (fun x e1 => kBool (meTy m e1 x) (kEs F es e1 (fun us e2 => kOpt (meU m e2 x us) fun z => K z e2) X) False) X
  | .mu m i path es, e, K, X => kBool (path.isNil || (qts path && qts es)) (kGet e i fun o => match o with
    | .o x => kP F path e x (fun p e1 => match p.2 with
      | .lst _ => kEs F es e1 (fun us e2 => kUpd (muO m us) e2 i p.1 K) X
      | _ => False) X
    | _ => False) False
  | .call k es, e, K, X => kEs F es e (fun us e1 => kGrab es us e1 fun us e1 => kNb us (kCall (F k us) (fun u os => kBack es os e1 fun e2 => K u e2) (fun x os => kBack es os e1 fun e2 => X x e2))) X
  | .callk k perm es, e, K, X => kEs F es e (fun us e1 => kNb (perm.map fun j => us.getD j .gone) (kCall (F k (perm.map fun j => us.getD j .gone)) (fun u os => K u e1) (fun x os => X x e1))) X
  | .calv i es, e, K, X => kGet e i fun o => match o with
    | .f k => kEs F es e (fun us e1 => kNb us (kCall (F k us) (fun u os => kBack es os e1 fun e2 => K u e2) (fun x os => kBack es os e1 fun e2 => X x e2))) fun _ _ => False
    | _ => False
  | .lc x t it ifs vs, e, K, X => kIt F it e (fun xs e1 => kLc F x t ifs vs xs e1 K) X
  | .ixc kvs i, e, K, X => kE F i e (fun x e1 => match x with
    | .d (.str z) => kOpt (lookC kvs z) fun d => K (.d d) e1
    | _ => False) X
  | .inc neg kvs i, e, K, X => kE F i e (fun x e1 => match x with
    | .d (.str z) => K (.d (.bool (neg != (lookC kvs z).isSome))) e1
    | _ => False) X
def kP (F : Nat → List U → Cr) : CEs → Env → O → (List PyData × O → Env → Prop) → KX → Prop
  | .nil, e, x, K, X => K ([], x) e
  | .cons c cs, e, x, K, X => kE F c e (fun u e1 => match u with
    | .d k => kOpt (x.kid k) fun y => kP F cs e1 y (fun p e2 => K (k :: p.1, p.2) e2) X
    | _ => False) X
def kEs (F : Nat → List U → Cr) : CEs → Env → (List U → Env → Prop) → KX → Prop
  | .nil, e, K, X => K [] e
  | .cons a es, e, K, X => kE F a e (fun x e1 => kEs F es e1 (fun us e2 => K (x :: us) e2) X) X
def kEo (F : Nat → List U → Cr) : CO → Env → (Option Int → Env → Prop) → KX → Prop
  | .none, e, K, X => K none e
  | .some a, e, K, X => kE F a e (fun x e1 => match x with
    | .d (.int i) => K (some i) e1
    | _ => False) X
def kIt (F : Nat → List U → Cr) : CI → Env → (List PyData → Env → Prop) → KX → Prop
  | .seq a, e, K, X => kE F a e (fun x e1 => match x with
    | .d (.tuple xs) => K xs e1
    | .d (.list xs) => K xs e1
    | .o (.lst xs) => K (frzL xs) e1
    | .d (.str s) => s.length ≤ most ∧ K (s.cps.toList.map fun c => .str ⟨#[c]⟩) e1
    | _ => False) X
  | .str a, e, K, X => kE F a e (fun x e1 => match x with
    | .d (.str s) => s.length ≤ most ∧ K (s.cps.toList.map fun c => .str ⟨#[c]⟩) e1
    | _ => False) X
  | .rng es, e, K, X => kEs F es e (fun us e1 => match us with
    | [.d (.int j)] => (-big < j ∧ j < big) ∧ K (rngL 0 j.toNat) e1
    | [.d (.int i), .d (.int j)] => (-big < j ∧ j < big ∧ -big < i ∧ i < big) ∧ K (rngL i (j - i).toNat) e1
    | _ => False) X
  | .enum a, e, K, X => kE F a e (fun x e1 => match x with
    | .d (.tuple xs) => K (xs.zipIdx.map fun p => .tuple [.int (p.2 : Nat), p.1]) e1
    | .d (.list xs) => K (xs.zipIdx.map fun p => .tuple [.int (p.2 : Nat), p.1]) e1
    | .o (.lst xs) => K ((frzL xs).zipIdx.map fun p => .tuple [.int (p.2 : Nat), p.1]) e1
    | _ => False) X
  | .zip a b, e, K, X => kE F a e (fun x e1 => kE F b e1 (fun y e2 => match x, y with
    | .d (.tuple xs), .d (.tuple ys) => K (zipD xs ys) e2
    | .d (.list xs), .d (.list ys) => K (zipD xs ys) e2
    | .o (.lst xs), .d (.list ys) => K (zipD (frzL xs) ys) e2
    | .d (.list xs), .o (.lst ys) => K (zipD xs (frzL ys)) e2
    | .o (.lst xs), .o (.lst ys) => K (zipD (frzL xs) (frzL ys)) e2
    | _, _ => False) X) X
end
/-- tests -/
def kTs (F : Nat → List U → Cr) : CEs → Env → (Env → Prop) → (Env → Prop) → KX → Prop
  | .nil, e, A, B, X => A e
  | .cons a es, e, A, B, X => kE F a e (fun x e1 => match x with
    | .d (.bool v) => kBool v (kTs F es e1 A B X) (B e1)
    | _ => False) X
end Fi
/-! The core run with what is wanted behind: it says what the core does. -/
namespace Fi
open PySem PySem.Spec PyProof.Rows L2
theorem kBool_ok {b : Bool} {A B : Prop} (h : kBool b A B) : (b = true ∧ A) ∨ (b = false ∧ B) := by cases b <;> first | exact .inl ⟨rfl, h⟩ | exact .inr ⟨rfl, h⟩
theorem kOpt_ok {α : Type} {o : Option α} {K : α → Prop} (h : kOpt o K) : ∃ a, o = some a ∧ K a := by
  cases o with
  | none => exact h.elim
  | some a => exact ⟨a, rfl, h⟩
section
variable {F : Nat → List U → Cr}
mutual
theorem kE_ok : ∀ {c : CE} {e : Env} {K : KU} {X : KX}, kE F c e K X → wR (ev F c e) K X
  | .var i, e, K, X, h => by
    rw [kE] at h
    obtain ⟨u, h1, h2⟩ := kGet_ok h
    rw [ev, h1]
    cases u <;> first | exact h2 | exact h2.elim | exact kSet_ok (K := fun e' => K _ e') h2
  | .pv i, e, K, X, h => by
    rw [kE] at h
    obtain ⟨u, h1, h2⟩ := kGet_ok h
    rw [ev, h1]
    cases u <;> first | exact h2 | exact h2.elim
  | .lt i, e, K, X, h => by
    rw [kE] at h
    obtain ⟨u, h1, h2⟩ := kGet_ok h
    rw [ev, h1]
    cases u <;> first | exact h2 | exact h2.elim
  | .mv i, e, K, X, h => by
    rw [kE] at h
    obtain ⟨u, h1, h2⟩ := kGet_ok h
    rw [ev, h1]
    cases u <;> first | exact h2 | exact h2.elim | exact kSet_ok (K := fun e' => K _ e') h2
  | .soft i, e, K, X, h => by
    rw [kE] at h
    obtain ⟨u, h1, h2⟩ := kGet_ok h
    rw [ev, h1]
    cases u with
    | o x =>
      cases x with
      | lst xs =>
        simp only at h2 ⊢
        split at h2
        · rename_i q; try rw [q]
          exact h2
        · rename_i q; try rw [q]
          exact kSet_ok (K := fun e' => K _ e') h2
      | _ => exact kSet_ok (K := fun e' => K _ e') h2
    | _ => first | exact h2 | exact h2.elim
  | .nve, e, K, X, h => by rw [kE] at h; exact h.elim
  | .cst x, e, K, X, h => by rw [kE] at h; rw [ev]; exact h
  | .fn k, e, K, X, h => by rw [kE] at h; rw [ev]; exact h
  | .bin op a b, e, K, X, h => by
    rw [kE] at h; rw [ev]
    exact wR_bd.mpr (wR_mono (kE_ok h) fun x e1 h1 => wR_bd.mpr (wR_mono (kE_ok h1) fun y e2 h2 => wR_lift h2))
  | .cmp op a b, e, K, X, h => by
    rw [kE] at h; rw [ev]
    exact wR_bd.mpr (wR_mono (kE_ok h) fun x e1 h1 => wR_bd.mpr (wR_mono (kE_ok h1) fun y e2 h2 => wR_lift h2))
  | .cmpP neg i path b, e, K, X, h => by
    rw [kE] at h; rw [ev]
    obtain ⟨u, h1, h2⟩ := kGet_ok h
    cases u with
    | o x =>
      rw [ownAt_of h1]
      exact wR_bd.mpr (wR_mono (kP_ok h2) fun p e1 h1 => wR_bd.mpr (wR_mono (kE_ok h1) fun y e2 h2 => wR_lift h2))
    | _ => exact h2.elim
  | .chn op op' a b c, e, K, X, h => by
    rw [kE] at h; rw [ev]
    refine wR_bd.mpr (wR_mono (kE_ok h) fun x e1 h1 => wR_bd.mpr (wR_mono (kE_ok h1) fun y e2 h2 => wR_bd.mpr ?_))
    obtain ⟨z, q, k⟩ := kOpt_ok h2
    rw [q]
    show wR _ K X
    split at k
    · rename_i v
      rcases kBool_ok k with ⟨rfl, k⟩ | ⟨rfl, k⟩
      · exact wR_bd.mpr (wR_mono (kE_ok k) fun w e4 h4 => wR_lift h4)
      · exact k
    · exact k.elim
  | .neg a, e, K, X, h => by
    rw [kE] at h; rw [ev]
    refine wR_bd.mpr (wR_mono (kE_ok h) fun x e1 h1 => ?_)
    split at h1
    · exact h1
    · exact h1.elim
  | .nt a, e, K, X, h => by
    rw [kE] at h; rw [ev]
    refine wR_bd.mpr (wR_mono (kE_ok h) fun x e1 h1 => ?_)
    split at h1
    · exact h1
    · exact h1.elim
  | .an a b, e, K, X, h => by
    rw [kE] at h; rw [ev]
    refine wR_bd.mpr (wR_mono (kE_ok h) fun x e1 h1 => ?_)
    split at h1
    · rcases kBool_ok h1 with ⟨rfl, k⟩ | ⟨rfl, k⟩
      · exact kE_ok k
      · exact k
    · exact h1.elim
  | .orr a b, e, K, X, h => by
    rw [kE] at h; rw [ev]
    refine wR_bd.mpr (wR_mono (kE_ok h) fun x e1 h1 => ?_)
    split at h1
    · rcases kBool_ok h1 with ⟨rfl, k⟩ | ⟨rfl, k⟩
      · exact k
      · exact kE_ok k
    · exact h1.elim
  | .ife t a b, e, K, X, h => by
    rw [kE] at h; rw [ev]
    refine wR_bd.mpr (wR_mono (kE_ok h) fun x e1 h1 => ?_)
    split at h1
    · rcases kBool_ok h1 with ⟨rfl, k⟩ | ⟨rfl, k⟩
      · exact kE_ok k
      · exact kE_ok k
    · exact h1.elim
  | .tup es, e, K, X, h => by
    rw [kE] at h; rw [ev]
    exact wR_bd.mpr (wR_mono (kEs_ok h) fun us e1 h1 => wR_lift h1)
  | .lst es, e, K, X, h => by
    rw [kE] at h; rw [ev]
    exact wR_bd.mpr (wR_mono (kEs_ok h) fun us e1 h1 => wR_lift h1)
  | .dic es, e, K, X, h => by
    rw [kE] at h; rw [ev]
    exact wR_bd.mpr (wR_mono (kEs_ok h) fun us e1 h1 => wR_lift h1)
  | .sub a i, e, K, X, h => by
    rw [kE] at h; rw [ev]
    exact wR_bd.mpr (wR_mono (kE_ok h) fun x e1 h1 => wR_bd.mpr (wR_mono (kE_ok h1) fun y e2 h2 => wR_lift h2))
  | .slc a lo hi, e, K, X, h => by
    rw [kE] at h; rw [ev]
    exact wR_bd.mpr (wR_mono (kE_ok h) fun x e1 h1 => wR_bd.mpr (wR_mono (kEo_ok h1) fun l e2 h2 => wR_bd.mpr (wR_mono (kEo_ok h2) fun y e3 h3 => wR_lift h3)))
  | .rev a, e, K, X, h => by
    rw [kE] at h; rw [ev]
    exact wR_bd.mpr (wR_mono (kE_ok h) fun us e1 h1 => wR_lift h1)
  | .isi a ts, e, K, X, h => by
    rw [kE] at h; rw [ev]
    refine wR_bd.mpr (wR_mono (kE_ok h) fun us e1 h1 => ?_)
    split at h1
    · exact wR_lift h1
    · exact h1.elim
  | .bi f es, e, K, X, h => by
    rw [kE] at h; rw [ev]
    exact wR_bd.mpr (wR_mono (kEs_ok h) fun us e1 h1 => wR_lift h1)
  | .me m a es, e, K, X, h => by
    rw [kE] at h; rw [ev]
    refine wR_bd.mpr (wR_mono (kE_ok h) fun us e1 h1 => ?_)
    rcases kBool_ok h1 with ⟨q, k⟩ | ⟨q, k⟩
    · rw [if_pos q]
      exact wR_bd.mpr (wR_mono (kEs_ok k) fun us e1 h1 => wR_lift h1)
    · exact k.elim
  | .mu m i path es, e, K, X, h => by
    rw [kE] at h; rw [ev]
    rcases kBool_ok h with ⟨q, k⟩ | ⟨q, k⟩
    · rw [if_pos q]
      obtain ⟨u, h1, h2⟩ := kGet_ok k
      cases u with
      | o x =>
        rw [ownAt_of h1]
        refine wR_bd.mpr (wR_mono (kP_ok h2) fun p e1 h3 => ?_)
        obtain ⟨p1, p2⟩ := p
        cases p2 with
        | lst xs => exact wR_bd.mpr (wR_mono (kEs_ok h3) fun us e2 h4 => kUpd_ok h4)
        | _ => exact h3.elim
      | _ => exact h2.elim
    · exact k.elim
  | .call k es, e, K, X, h => by
    rw [kE] at h; rw [ev]
    refine wR_bd.mpr (wR_mono (kEs_ok h) fun us e1 h1 => ?_)
    obtain ⟨us2, e2, q0, h1⟩ := kGrab_ok h1
    simp only [q0]
    obtain ⟨h2, h3⟩ := kNb_ok h1
    unfold callF
    rw [if_pos h2]
    unfold kCall at h3
    cases q : F k us2 with
    | ok u os => rw [q] at h3; exact kBack_ok (K := fun e2 => K u e2) h3
    | ex u os => rw [q] at h3; exact kBack_ok (K := fun e2 => X u e2) h3
    | no => rw [q] at h3; exact h3.elim
  | .callk k perm es, e, K, X, h => by
    rw [kE] at h; rw [ev]
    refine wR_bd.mpr (wR_mono (kEs_ok h) fun us e1 h1 => ?_)
    obtain ⟨h2, h3⟩ := kNb_ok h1
    unfold callF
    rw [if_pos h2]
    unfold kCall at h3
    cases q : F k (perm.map fun j => us.getD j .gone) with
    | ok u os => rw [q] at h3; exact h3
    | ex u os => rw [q] at h3; exact h3
    | no => rw [q] at h3; exact h3.elim
  | .calv i es, e, K, X, h => by
    rw [kE] at h; rw [ev]
    obtain ⟨u, h1, h2⟩ := kGet_ok h
    cases u with
    | f k =>
      simp only [h1]
      have h3 := kEs_ok h2
      refine wR_bd.mpr ?_
      cases q : evs F es e with
      | ok us e1 =>
        rw [q] at h3
        obtain ⟨h2, h3⟩ := kNb_ok h3
        show wR (match callF F k us with | .ok u os => _ | .ex x os => _ | .no => _) K X
        unfold callF
        rw [if_pos h2]
        unfold kCall at h3
        cases q : F k us with
        | ok u os => rw [q] at h3; exact kBack_ok (K := fun e2 => K u e2) h3
        | ex u os => rw [q] at h3; exact kBack_ok (K := fun e2 => X u e2) h3
        | no => rw [q] at h3; exact h3.elim
      | ex x e1 => rw [q] at h3; exact h3.elim
      | no => rw [q] at h3; exact h3.elim
    | _ => exact h2.elim
  | .lc x t it ifs vs, e, K, X, h => by
    rw [kE] at h; rw [ev]
    refine wR_bd.mpr (wR_mono (kIt_ok h) fun xs e1 h1 => ?_)
    unfold kLc at h1
    rw [if_pos h1.1]
    exact wR_mono h1.2 (fun _ _ z => z) fun _ _ z => z.elim
  | .ixc kvs i, e, K, X, h => by
    rw [kE] at h; rw [ev]
    refine wR_bd.mpr (wR_mono (kE_ok h) fun x e1 h1 => ?_)
    split at h1
    · obtain ⟨d, q, k⟩ := kOpt_ok h1
      simp only [q]
      exact k
    · exact h1.elim
  | .inc neg kvs i, e, K, X, h => by
    rw [kE] at h; rw [ev]
    refine wR_bd.mpr (wR_mono (kE_ok h) fun x e1 h1 => ?_)
    split at h1
    · exact h1
    · exact h1.elim
theorem kP_ok : ∀ {c : CEs} {e : Env} {x : O} {K : List PyData × O → Env → Prop} {X : KX}, kP F c e x K X → wR (evp F c e x) K X
  | .nil, e, x, K, X, h => by rw [kP] at h; rw [evp]; exact h
  | .cons c cs, e, x, K, X, h => by
    rw [kP] at h; rw [evp]
    refine wR_bd.mpr (wR_mono (kE_ok h) fun u e1 h1 => ?_)
    split at h1
    · obtain ⟨y, q, k⟩ := kOpt_ok h1
      simp only [q]
      exact wR_bd.mpr (wR_mono (kP_ok k) fun _ _ z => z)
    · exact h1.elim
theorem kEs_ok : ∀ {c : CEs} {e : Env} {K : List U → Env → Prop} {X : KX}, kEs F c e K X → wR (evs F c e) K X
  | .nil, e, K, X, h => by rw [kEs] at h; rw [evs]; exact h
  | .cons a es, e, K, X, h => by
    rw [kEs] at h; rw [evs]
    exact wR_bd.mpr (wR_mono (kE_ok h) fun u e1 h1 => wR_bd.mpr (kEs_ok h1))
theorem kEo_ok : ∀ {c : CO} {e : Env} {K : Option Int → Env → Prop} {X : KX}, kEo F c e K X → wR (evo F c e) K X
  | .none, e, K, X, h => by rw [kEo] at h; rw [evo]; exact h
  | .some a, e, K, X, h => by
    rw [kEo] at h; rw [evo]
    refine wR_bd.mpr (wR_mono (kE_ok h) fun u e1 h1 => ?_)
    split at h1
    · exact h1
    · exact h1.elim
theorem kIt_ok : ∀ {c : CI} {e : Env} {K : List PyData → Env → Prop} {X : KX}, kIt F c e K X → wR (evi F c e) K X
  | .seq a, e, K, X, h => by
    rw [kIt] at h; rw [evi]
    refine wR_bd.mpr (wR_mono (kE_ok h) fun u e1 h1 => wR_lift ?_)
    split at h1
    · exact h1
    · exact h1
    · exact h1
    · (try simp only []); rw [if_pos h1.1]; exact h1.2
    · exact h1.elim
  | .str a, e, K, X, h => by
    rw [kIt] at h; rw [evi]
    refine wR_bd.mpr (wR_mono (kE_ok h) fun u e1 h1 => wR_lift ?_)
    split at h1
    · (try simp only []); rw [if_pos h1.1]; exact h1.2
    · exact h1.elim
  | .rng es, e, K, X, h => by
    rw [kIt] at h; rw [evi]
    refine wR_bd.mpr (wR_mono (kEs_ok h) fun u e1 h1 => wR_lift ?_)
    split at h1
    · (try simp only []); rw [if_pos h1.1]; exact h1.2
    · (try simp only []); rw [if_pos h1.1]; exact h1.2
    · exact h1.elim
  | .enum a, e, K, X, h => by
    rw [kIt] at h; rw [evi]
    refine wR_bd.mpr (wR_mono (kE_ok h) fun u e1 h1 => wR_lift ?_)
    split at h1
    · exact h1
    · exact h1
    · exact h1
    · exact h1.elim
  | .zip a b, e, K, X, h => by
    rw [kIt] at h; rw [evi]
    refine wR_bd.mpr (wR_mono (kE_ok h) fun u e1 h1 => wR_bd.mpr (wR_mono (kE_ok h1) fun y e2 h2 => wR_lift ?_))
    split at h2
    · exact h2
    · exact h2
    · exact h2
    · exact h2
    · exact h2
    · exact h2.elim
end
theorem kTs_ok : ∀ {c : CEs} {e : Env} {A B : Env → Prop} {X : KX}, kTs F c e A B X → wR (evt F c e) (fun b e1 => if b = true then A e1 else B e1) X
  | .nil, e, A, B, X, h => by rw [kTs] at h; rw [evt]; exact h
  | .cons a es, e, A, B, X, h => by
    rw [kTs] at h; rw [evt]
    refine wR_bd.mpr (wR_mono (kE_ok h) fun u e1 h1 => ?_)
    split at h1
    · rcases kBool_ok h1 with ⟨rfl, k⟩ | ⟨rfl, k⟩
      · exact kTs_ok k
      · exact k
    · exact h1.elim
/-! ### comprehensions -/
mutual
def kSt : CT → PyData → Env → (Env → Prop) → Prop
  | .name i, x, e, K => kSet e i (some (.d x)) K
  | .tup ts, .tuple xs, e, K => kSts ts xs e K
  | .tup _, _, _, _ => False
def kSts : List CT → List PyData → Env → (Env → Prop) → Prop
  | [], [], e, K => K e
  | t :: ts, x :: xs, e, K => kSt t x e fun e1 => kSts ts xs e1 K
  | _, _, _, _ => False
end
mutual
theorem kSt_ok : ∀ {t : CT} {d : PyData} {e : Env} {K : Env → Prop}, kSt t d e K → ∃ e1, setT t d e = some e1 ∧ K e1
  | .name i, x, e, K, h => by rw [kSt] at h; rw [setT]; exact ⟨_, rfl, kSet_ok h⟩
  | .tup ts, d, e, K, h => by
    cases d with
    | tuple xs => rw [kSt] at h; rw [setT]; exact kSts_ok h
    | _ => rw [kSt] at h <;> first | exact h.elim | (intro _ z; cases z)
theorem kSts_ok : ∀ {t : List CT} {d : List PyData} {e : Env} {K : Env → Prop}, kSts t d e K → ∃ e1, setT.setTs t d e = some e1 ∧ K e1
  | [], [], e, K, h => by rw [kSts] at h; rw [setT.setTs]; exact ⟨_, rfl, h⟩
  | t :: ts, x :: xs, e, K, h => by
    rw [kSts] at h; rw [setT.setTs]
    obtain ⟨e1, h1, h2⟩ := kSt_ok h
    rw [h1]
    exact kSts_ok h2
  | [], _ :: _, e, K, h => by unfold kSts at h; exact h.elim
  | _ :: _, [], e, K, h => by unfold kSts at h; exact h.elim
end
/-- one turn -/
def kTurn (F : Nat → List U → Cr) (x : CE) (t : CT) (ifs : CEs) (d : PyData) (e : Env) (A : KU) (B : Env → Prop) : Prop :=
  kSt t d e fun e1 => kTs F ifs e1 (fun e2 => kE F x e2 A fun _ _ => False) B fun _ _ => False
theorem kTurn_ok {x : CE} {t : CT} {ifs : CEs} {d : PyData} {e : Env} {A : KU} {B : Env → Prop} (h : kTurn F x t ifs d e A B) :
    ∃ e1, setT t d e = some e1 ∧ ((∃ e2 u e3, evt F ifs e1 = .ok true e2 ∧ ev F x e2 = .ok u e3 ∧ A u e3) ∨ ∃ e2, evt F ifs e1 = .ok false e2 ∧ B e2) := by
  obtain ⟨e1, h1, h2⟩ := kSt_ok h
  refine ⟨e1, h1, ?_⟩
  have h3 := kTs_ok h2
  cases q : evt F ifs e1 with
  | ok b e2 =>
    rw [q] at h3
    cases b with
    | true =>
      have h4 := kE_ok (show kE F x e2 _ _ from h3)
      cases q2 : ev F x e2 with
      | ok u e3 => rw [q2] at h4; exact .inl ⟨e2, u, e3, rfl, q2, h4⟩
      | ex _ _ => rw [q2] at h4; exact h4.elim
      | no => rw [q2] at h4; exact h4.elim
    | false => exact .inr ⟨e2, rfl, h3⟩
  | ex _ _ => rw [q] at h3; exact h3.elim
  | no => rw [q] at h3; exact h3.elim
/-- the same in the core's words -/
def tTurn (F : Nat → List U → Cr) (x : CE) (t : CT) (ifs : CEs) (d : PyData) (e : Env) (A : KU) (B : Env → Prop) : Prop :=
    ∃ e1, setT t d e = some e1 ∧ ((∃ e2 u e3, evt F ifs e1 = .ok true e2 ∧ ev F x e2 = .ok u e3 ∧ A u e3) ∨ ∃ e2, evt F ifs e1 = .ok false e2 ∧ B e2)
theorem tTurn_mono {x : CE} {t : CT} {ifs : CEs} {d : PyData} {e : Env} {A A' : KU} {B B' : Env → Prop} (h : tTurn F x t ifs d e A B) (ha : ∀ u e, A u e → A' u e) (hb : ∀ e, B e → B' e) : tTurn F x t ifs d e A' B' := by
  obtain ⟨e1, h1, h2⟩ := h
  refine ⟨e1, h1, ?_⟩
  rcases h2 with ⟨e2, u, e3, q1, q2, q3⟩ | ⟨e2, q1, q2⟩
  · exact .inl ⟨e2, u, e3, q1, q2, ha _ _ q3⟩
  · exact .inr ⟨e2, q1, hb _ q2⟩
/-- a comprehension by what holds behind each turn -/
theorem kLc_invT {x : CE} {t : CT} {ifs : CEs} {vs : List Nat} {xs : List PyData} {e : Env} {K : KU} (I : List PyData → List PyData → Env → Prop) (hl : xs.length ≤ most) (h0 : I [] xs (wipeE e vs))
    (hs : ∀ d ds acc e1, I acc (d :: ds) e1 → tTurn F x t ifs d e1 (fun u e3 => ∃ y, u.dat = some y ∧ I (acc ++ [y]) ds (wipeE e3 vs)) fun e2 => I acc ds (wipeE e2 vs)) (hk : ∀ acc e1, I acc [] e1 → K (nl acc) e1) : kLc F x t ifs vs xs e K := by
  unfold kLc
  refine ⟨hl, ?_⟩
  have : ∀ (xs acc : List PyData) (e : Env), I acc xs (wipeE e vs) → wR (lcL (fun d e => setT t d e) (fun e => evt F ifs e) (fun e => ev F x e) vs xs acc e) K fun _ _ => False := by
    intro xs
    induction xs with
    | nil => intro acc e h; unfold lcL; exact hk acc _ h
    | cons d ds ih =>
      intro acc e h
      obtain ⟨e1, h1, h2⟩ := hs d ds acc _ h
      unfold lcL
      rw [h1]
      simp only
      rcases h2 with ⟨e2, u, e3, q1, q2, y, q3, q4⟩ | ⟨e2, q1, q2⟩
      · rw [q1]; simp only; rw [q2]; simp only; rw [q3]; exact ih _ _ q4
      · rw [q1]; exact ih _ _ q2
  exact this xs [] e h0
theorem kLc_inv {x : CE} {t : CT} {ifs : CEs} {vs : List Nat} {xs : List PyData} {e : Env} {K : KU} (I : List PyData → List PyData → Env → Prop) (hl : xs.length ≤ most) (h0 : I [] xs (wipeE e vs))
    (hs : ∀ d ds acc e1, I acc (d :: ds) e1 → kTurn F x t ifs d e1 (fun u e3 => ∃ y, u.dat = some y ∧ I (acc ++ [y]) ds (wipeE e3 vs)) fun e2 => I acc ds (wipeE e2 vs)) (hk : ∀ acc e1, I acc [] e1 → K (nl acc) e1) : kLc F x t ifs vs xs e K :=
  kLc_invT I hl h0 (fun d ds acc e1 h => kTurn_ok (hs d ds acc e1 h)) hk
/-- a comprehension that changes nothing -/
theorem kLc_fn {x : CE} {t : CT} {ifs : CEs} {vs : List Nat} {xs : List PyData} {e : Env} {K : KU} (f : PyData → Option PyData) (hl : xs.length ≤ most) (he : wipeE e vs = e)
    (hs : ∀ d ∈ xs, kTurn F x t ifs d e (fun u e3 => ∃ y, u.dat = some y ∧ f d = some y ∧ wipeE e3 vs = e) fun e2 => f d = none ∧ wipeE e2 vs = e) (hk : K (nl (xs.filterMap f)) e) : kLc F x t ifs vs xs e K := by
  refine kLc_invT (fun acc rest e1 => e1 = e ∧ (∀ d ∈ rest, d ∈ xs) ∧ acc ++ rest.filterMap f = xs.filterMap f) hl ⟨he, fun _ h => h, rfl⟩ ?_ ?_
  · rintro d ds acc e1 ⟨rfl, h1, h2⟩
    have hr : ∀ z ∈ ds, z ∈ xs := fun z hz => h1 z (List.mem_cons_of_mem _ hz)
    refine tTurn_mono (kTurn_ok (hs d (h1 d List.mem_cons_self))) ?_ ?_
    · rintro u e3 ⟨y, q1, q2, q3⟩
      refine ⟨y, q1, q3, hr, ?_⟩
      rw [← h2, List.filterMap_cons, q2, List.append_assoc]; rfl
    · rintro e2 ⟨q1, q2⟩
      refine ⟨q2, hr, ?_⟩
      rw [← h2, List.filterMap_cons, q1]
  · rintro acc e1 ⟨rfl, _, h⟩
    rw [List.filterMap_nil, List.append_nil] at h
    rw [h]; exact hk
end
end Fi
/-! The core run with what is wanted behind: statements, calls. -/
namespace Fi
open PySem PySem.Spec PyProof.Rows L2
abbrev KE := Env → Prop
def wSo (r : So) (N B C : KE) (R : KU) (X : KX) : Prop := match r with
  | .nx e => N e
  | .bk e => B e
  | .ct e => C e
  | .rt u e => R u e
  | .ex x e => X x e
  | .no => False
theorem wSo_mono {r : So} {N B C N' B' C' : KE} {R R' : KU} {X X' : KX} (h : wSo r N B C R X) (n : ∀ e, N e → N' e) (b : ∀ e, B e → B' e) (c : ∀ e, C e → C' e) (k : ∀ u e, R u e → R' u e := by exact fun _ _ z => z) (x : ∀ a e, X a e → X' a e := by exact fun _ _ z => z) : wSo r N' B' C' R' X' := by
  cases r with
  | nx e => exact n e h
  | bk e => exact b e h
  | ct e => exact c e h
  | rt u e => exact k u e h
  | ex a e => exact x a e h
  | no => exact h
theorem wSo_so {α : Type} {r : Rs α} {f : α → Env → So} {N B C : KE} {R : KU} {X : KX} (h : wR r (fun a e => wSo (f a e) N B C R X) X) : wSo (r.so f) N B C R X := by cases r <;> exact h
theorem wSo_then {r : So} {f : Env → So} {N B C : KE} {R : KU} {X : KX} (h : wSo r (fun e => wSo (f e) N B C R X) B C R X) : wSo (r.then_ f) N B C R X := by cases r <;> exact h
@[irreducible] def kFor (F : Nat → List U → Cr) (t : CT) (b : CSs) (xs : List PyData) (e : Env) (N : KE) (R : KU) (X : KX) : Prop :=
  wSo (floop (fun d e => setT t d e) (fun e => exSs F b e) xs e) N (fun _ => False) (fun _ => False) R X
@[irreducible] def kWhl (F : Nat → List U → Cr) (t : CE) (b : CSs) (n : Nat) (e : Env) (N : KE) (R : KU) (X : KX) : Prop :=
  wSo (wloop (fun e => ev F t e) (fun e => exSs F b e) n e) N (fun _ => False) (fun _ => False) R X
def kOk (u : U) (A : Prop) : Prop := match u with
  | .d _ => A
  | .o _ => A
  | .f _ => A
  | _ => False
theorem kOk_ok {u : U} {A : Prop} (h : kOk u A) : okU u = true ∧ A := by cases u <;> first | exact ⟨rfl, h⟩ | exact h.elim
def kSetUs : List Nat → List U → Env → KE → Prop
  | [], [], e, K => K e
  | i :: is, u :: us, e, K => kOk u (kSet e i (some u) fun e' => kSetUs is us e' K)
  | _, _, _, _ => False
theorem kSetUs_ok : ∀ {is : List Nat} {us : List U} {e : Env} {K : KE}, kSetUs is us e K → ∃ e1, setUs is us e = some e1 ∧ K e1
  | [], [], e, K, h => ⟨e, rfl, h⟩
  | i :: is, u :: us, e, K, h => by
    obtain ⟨h1, h2⟩ := kOk_ok (show kOk u _ from h)
    unfold setUs
    rw [if_pos h1]
    exact kSetUs_ok (kSet_ok (K := fun e' => kSetUs is us e' K) h2)
  | [], _ :: _, e, K, h => h.elim
  | _ :: _, [], e, K, h => h.elim
section
variable {F : Nat → List U → Cr}
def kStgo (F : Nat → List U → Cr) (p : Pl) (u : U) (e : Env) (K : KU) (X : KX) : Prop := kBool (p.path.isNil || (qts p.path && qt p.k)) (kGet e p.i fun o => match o with
  | .o x => kP F p.path e x (fun q e1 => kE F p.k e1 (fun k e2 => kUpd (stU [k, u]) e2 p.i q.1 K) X) X
  | _ => False) False
theorem kStgo_ok {p : Pl} {u : U} {e : Env} {K : KU} {X : KX} (h : kStgo F p u e K X) : wR (stgo F p u e) K X := by
  unfold stgo
  rcases kBool_ok h with ⟨q, k⟩ | ⟨q, k⟩
  · rw [if_pos q]
    obtain ⟨w, h1, h2⟩ := kGet_ok k
    cases w with
    | o x =>
      rw [ownAt_of h1]
      exact wR_bd.mpr (wR_mono (kP_ok h2) fun p e1 h3 => wR_bd.mpr (wR_mono (kE_ok h3) fun y e2 h4 => kUpd_ok h4))
    | _ => exact h2.elim
  · exact k.elim
def kSttgo (F : Nat → List U → Cr) : List Pl → List PyData → Env → KE → KX → Prop
  | [], [], e, K, X => K e
  | p :: ps, d :: ds, e, K, X => kStgo F p (.d d) e (fun _ e1 => kSttgo F ps ds e1 K X) X
  | _, _, _, _, _ => False
theorem kSttgo_ok : ∀ {ps : List Pl} {ds : List PyData} {e : Env} {K : KE} {X : KX}, kSttgo F ps ds e K X → wR (sttgo F ps ds e) (fun _ e => K e) X
  | [], [], e, K, X, h => h
  | p :: ps, d :: ds, e, K, X, h => by
    unfold sttgo
    exact wR_bd.mpr (wR_mono (kStgo_ok (show kStgo F p (.d d) e _ X from h)) fun _ e1 h1 => kSttgo_ok h1)
  | [], _ :: _, e, K, X, h => h.elim
  | _ :: _, [], e, K, X, h => h.elim
mutual
def kS (F : Nat → List U → Cr) : CS → Env → KE → KE → KE → KU → KX → Prop
  | .set i c, e, N, B, C, R, X => kE F c e (fun u e1 => kOk u (kSet e1 i (some u) N)) X
  | .tup t c, e, N, B, C, R, X => kE F c e (fun u e1 => kOpt u.dat fun d => kSt t d e1 N) X
  | .par is cs, e, N, B, C, R, X => kEs F cs e (fun us e1 => kSetUs is us e1 N) X
  | .st p c, e, N, B, C, R, X => kE F c e (fun u e1 => kStgo F p u e1 (fun _ e2 => N e2) X) X
  | .stt ps c, e, N, B, C, R, X => kE F c e (fun u e1 => match u with
    | .d (.tuple ds) => ds.length = ps.length ∧ kSttgo F ps ds e1 N X
    | _ => False) X
  | .ex c, e, N, B, C, R, X => kE F c e (fun _ e1 => N e1) X
  | .ite t a b, e, N, B, C, R, X => kE F t e (fun u e1 => match u with
    | .d (.bool v) => kBool v (kSs F a e1 N B C R X) (kSs F b e1 N B C R X)
    | _ => False) X
  | .loop t it b, e, N, B, C, R, X => kIt F it e (fun xs e1 => kFor F t b xs e1 N R X) X
  | .whl t b, e, N, B, C, R, X => kWhl F t b wfuel e N R X
  | .ret c, e, N, B, C, R, X => kE F c e (fun u e1 => kOk u (R u e1)) X
  | .retn, e, N, B, C, R, X => R (.d .none) e
  | .brk, e, N, B, C, R, X => B e
  | .cnt, e, N, B, C, R, X => C e
  | .pass, e, N, B, C, R, X => N e
  | .nvr, e, N, B, C, R, X => False
def kSs (F : Nat → List U → Cr) : CSs → Env → KE → KE → KE → KU → KX → Prop
  | .nil, e, N, B, C, R, X => N e
  | .cons s r, e, N, B, C, R, X => kS F s e (fun e1 => kSs F r e1 N B C R X) B C R X
end
mutual
theorem kS_ok : ∀ {s : CS} {e : Env} {N B C : KE} {R : KU} {X : KX}, kS F s e N B C R X → wSo (exS F s e) N B C R X
  | .set i c, e, N, B, C, R, X, h => by
    rw [kS] at h; rw [exS]
    refine wSo_so (wR_mono (kE_ok h) fun u e1 h1 => ?_)
    obtain ⟨h2, h3⟩ := kOk_ok h1
    unfold setU
    rw [if_pos h2]
    exact kSet_ok h3
  | .tup t c, e, N, B, C, R, X, h => by
    rw [kS] at h; rw [exS]
    refine wSo_so (wR_mono (kE_ok h) fun u e1 h1 => ?_)
    obtain ⟨d, h2, h3⟩ := kOpt_ok h1
    obtain ⟨e2, h4, h5⟩ := kSt_ok h3
    rw [h2]
    simp only
    rw [h4]
    exact h5
  | .par is cs, e, N, B, C, R, X, h => by
    rw [kS] at h; rw [exS]
    refine wSo_so (wR_mono (kEs_ok h) fun u e1 h1 => ?_)
    obtain ⟨e2, h4, h5⟩ := kSetUs_ok h1
    rw [h4]
    exact h5
  | .st p c, e, N, B, C, R, X, h => by
    rw [kS] at h; rw [exS]
    exact wSo_so (wR_mono (kE_ok h) fun u e1 h1 => wSo_so (wR_mono (kStgo_ok h1) fun _ e2 h2 => h2))
  | .stt ps c, e, N, B, C, R, X, h => by
    rw [kS] at h; rw [exS]
    refine wSo_so (wR_mono (kE_ok h) fun u e1 h1 => ?_)
    split at h1
    · (try simp only []); rw [if_pos h1.1]
      exact wSo_so (wR_mono (kSttgo_ok h1.2) fun _ e2 h2 => h2)
    · exact h1.elim
  | .ex c, e, N, B, C, R, X, h => by
    rw [kS] at h; rw [exS]
    exact wSo_so (wR_mono (kE_ok h) fun u e1 h1 => h1)
  | .ite t a b, e, N, B, C, R, X, h => by
    rw [kS] at h; rw [exS]
    refine wSo_so (wR_mono (kE_ok h) fun u e1 h1 => ?_)
    split at h1
    · rcases kBool_ok h1 with ⟨rfl, k⟩ | ⟨rfl, k⟩
      · exact kSs_ok k
      · exact kSs_ok k
    · exact h1.elim
  | .loop t it b, e, N, B, C, R, X, h => by
    rw [kS] at h; rw [exS]
    refine wSo_so (wR_mono (kIt_ok h) fun xs e1 h1 => ?_)
    unfold kFor at h1
    exact wSo_mono h1 (fun _ z => z) (fun _ z => z.elim) (fun _ z => z.elim)
  | .whl t b, e, N, B, C, R, X, h => by
    rw [kS] at h; rw [exS]
    unfold kWhl at h
    exact wSo_mono h (fun _ z => z) (fun _ z => z.elim) (fun _ z => z.elim)
  | .ret c, e, N, B, C, R, X, h => by
    rw [kS] at h; rw [exS]
    refine wSo_so (wR_mono (kE_ok h) fun u e1 h1 => ?_)
    obtain ⟨h2, h3⟩ := kOk_ok h1
    rw [if_pos h2]
    exact h3
  | .retn, e, N, B, C, R, X, h => by rw [kS] at h; rw [exS]; exact h
  | .brk, e, N, B, C, R, X, h => by rw [kS] at h; rw [exS]; exact h
  | .cnt, e, N, B, C, R, X, h => by rw [kS] at h; rw [exS]; exact h
  | .pass, e, N, B, C, R, X, h => by rw [kS] at h; rw [exS]; exact h
  | .nvr, e, N, B, C, R, X, h => by rw [kS] at h; exact h.elim
theorem kSs_ok : ∀ {s : CSs} {e : Env} {N B C : KE} {R : KU} {X : KX}, kSs F s e N B C R X → wSo (exSs F s e) N B C R X
  | .nil, e, N, B, C, R, X, h => by rw [kSs] at h; rw [exSs]; exact h
  | .cons s r, e, N, B, C, R, X, h => by
    rw [kSs] at h; rw [exSs]
    exact wSo_then (wSo_mono (kS_ok h) (fun e1 h1 => kSs_ok h1) (fun _ z => z) fun _ z => z)
end
/-! ### loops -/
theorem kFor_nil {t : CT} {b : CSs} {e : Env} {N : KE} {R : KU} {X : KX} (h : N e) : kFor F t b [] e N R X := by unfold kFor floop; exact h
theorem wSo_turn {r : So} {f : Env → So} {N B C : KE} {R : KU} {X : KX} (h : wSo r (fun e => wSo (f e) N B C R X) N (fun e => wSo (f e) N B C R X) R X) : wSo (r.turn f) N B C R X := by cases r <;> exact h
theorem kFor_cons {t : CT} {b : CSs} {d : PyData} {ds : List PyData} {e : Env} {N : KE} {R : KU} {X : KX} (h : kSt t d e fun e1 => kSs F b e1 (fun e2 => kFor F t b ds e2 N R X) N (fun e2 => kFor F t b ds e2 N R X) R X) : kFor F t b (d :: ds) e N R X := by
  obtain ⟨e1, h1, h2⟩ := kSt_ok h
  unfold kFor floop
  rw [h1]
  refine wSo_turn (wSo_mono (kSs_ok h2) (fun e2 h3 => ?_) (fun _ z => z) (fun e2 h3 => ?_))
  · unfold kFor at h3; exact h3
  · unfold kFor at h3; exact h3
/-- a loop by what holds behind each turn; what is left to walk stands beside -/
theorem kFor_inv {t : CT} {b : CSs} {xs : List PyData} {e : Env} {N : KE} {R : KU} {X : KX} (I : List PyData → Env → Prop) (h0 : I xs e) (hs : ∀ d ds e1, I (d :: ds) e1 → kSt t d e1 fun e2 => kSs F b e2 (I ds) N (I ds) R X) (hk : ∀ e1, I [] e1 → N e1) : kFor F t b xs e N R X := by
  unfold kFor
  have : ∀ (xs : List PyData) (e : Env), I xs e → wSo (floop (fun d e => setT t d e) (fun e => exSs F b e) xs e) N (fun _ => False) (fun _ => False) R X := by
    intro xs
    induction xs with
    | nil => intro e h; unfold floop; exact hk e h
    | cons d ds ih =>
      intro e h
      obtain ⟨e1, h1, h2⟩ := kSt_ok (hs d ds e h)
      unfold floop
      rw [h1]
      exact wSo_turn (wSo_mono (kSs_ok h2) (fun e2 h3 => ih e2 h3) (fun _ z => z) (fun e2 h3 => ih e2 h3))
  exact this xs e h0
theorem kWhl_inv {t : CE} {b : CSs} {n : Nat} {e : Env} {N : KE} {R : KU} {X : KX} (I : Nat → Env → Prop) (m : Nat) (hm : m < n) (h0 : I m e)
    (hs : ∀ m e1, I m e1 → kE F t e1 (fun u e2 => match u with
      | .d (.bool v) => kBool v (kSs F b e2 (fun e3 => ∃ m', m' < m ∧ I m' e3) N (fun e3 => ∃ m', m' < m ∧ I m' e3) R X) (N e2)
      | _ => False) X) : kWhl F t b n e N R X := by
  unfold kWhl
  have : ∀ (n m : Nat) (e : Env), m < n → I m e → wSo (wloop (fun e => ev F t e) (fun e => exSs F b e) n e) N (fun _ => False) (fun _ => False) R X := by
    intro n
    induction n with
    | zero => intro m e h; omega
    | succ n ih =>
      intro m e hm h
      unfold wloop
      refine wSo_so (wR_mono (kE_ok (hs m e h)) fun u e1 h1 => ?_)
      split at h1
      · rcases kBool_ok h1 with ⟨rfl, k⟩ | ⟨rfl, k⟩
        · exact wSo_turn (wSo_mono (kSs_ok k) (fun e2 ⟨m', l, h3⟩ => ih m' e2 (by omega) h3) (fun _ z => z) (fun e2 ⟨m', l, h3⟩ => ih m' e2 (by omega) h3))
        · exact k
      · exact h1.elim
  exact this n m e hm h0
end
/-! ### a def's contract -/
theorem kDef {tb : Tb} {ds : List Df} {l g : Nat} {us : List U} {d : Fd} {K : U → List U → Prop} {X : Xn → List U → Prop} (hd : (ds.map (Df.core tb))[g]? = some d) (hl : us.length = d.n)
    (h : kSs (Fl tb ds l) d.body (us.map some ++ List.replicate (d.m - d.n) none) (fun e => K (.d .none) (outs d e)) (fun _ => False) (fun _ => False) (fun u e => kOk u (K u (outs d e))) (fun x e => X x (outs d e))) : kCall (Fl tb ds (l + 1) g us) K X := by
  unfold kCall
  have e1 : Fl tb ds (l + 1) g us = callB (ds.map (Df.core tb)) (Fl tb ds l) g us := rfl
  rw [e1]
  unfold callB
  rw [hd]
  simp only
  rw [if_pos hl]
  have h2 := kSs_ok h
  cases q : exSs (Fl tb ds l) d.body (us.map some ++ List.replicate (d.m - d.n) none) with
  | nx e => rw [q] at h2; exact h2
  | bk e => rw [q] at h2; exact h2.elim
  | ct e => rw [q] at h2; exact h2.elim
  | rt u e =>
    rw [q] at h2
    obtain ⟨h3, h4⟩ := kOk_ok (show kOk u _ from h2)
    simp only
    rw [if_pos h3]
    exact h4
  | ex x e => rw [q] at h2; exact h2
  | no => rw [q] at h2; exact h2.elim
end Fi
/-! Measures of data: depth, integers, texts, how long it is shown. -/
namespace Fi
open PySem PySem.Spec PyProof.Rows L2
/-- a text of plain characters -/
def SA (z : Str) : Prop := ∀ c ∈ z.cps.toList, c < 128
mutual
/-- integers up to I, plain texts, nested up to e -/
def Vd (I : Nat) : PyData → Nat → Prop
  | .none, _ => True
  | .bool _, _ => True
  | .int i, _ => i.natAbs ≤ I
  | .str z, _ => SA z
  | .list ds, e => 1 ≤ e ∧ VdL I ds (e - 1)
  | .tuple ds, e => 1 ≤ e ∧ VdL I ds (e - 1)
  | .dict kvs, e => 1 ≤ e ∧ VdK I kvs (e - 1)
def VdL (I : Nat) : List PyData → Nat → Prop
  | [], _ => True
  | d :: ds, e => Vd I d e ∧ VdL I ds e
def VdK (I : Nat) : List (PyData × PyData) → Nat → Prop
  | [], _ => True
  | (k, d) :: r, e => Vd I k e ∧ Vd I d e ∧ VdK I r e
end
mutual
theorem Vd.mono {I I' : Nat} (hI : I ≤ I') : ∀ (d : PyData) {e e' : Nat}, e ≤ e' → Vd I d e → Vd I' d e'
  | .none, _, _, _, _ => trivial
  | .bool _, _, _, _, _ => trivial
  | .int i, _, _, _, h => Nat.le_trans (show i.natAbs ≤ I by unfold Vd at h; exact h) hI
  | .str z, _, _, _, h => by unfold Vd at h ⊢; exact h
  | .list ds, e, e', he, h => by
    unfold Vd at h ⊢
    exact ⟨by omega, VdL.mono hI ds (by omega) h.2⟩
  | .tuple ds, e, e', he, h => by
    unfold Vd at h ⊢
    exact ⟨by omega, VdL.mono hI ds (by omega) h.2⟩
  | .dict ds, e, e', he, h => by
    unfold Vd at h ⊢
    exact ⟨by omega, VdK.mono hI ds (by omega) h.2⟩
theorem VdL.mono {I I' : Nat} (hI : I ≤ I') : ∀ (ds : List PyData) {e e' : Nat}, e ≤ e' → VdL I ds e → VdL I' ds e'
  | [], _, _, _, _ => trivial
  | d :: ds, _, _, he, h => by
    unfold VdL at h ⊢
    exact ⟨Vd.mono hI d he h.1, VdL.mono hI ds he h.2⟩
theorem VdK.mono {I I' : Nat} (hI : I ≤ I') : ∀ (ds : List (PyData × PyData)) {e e' : Nat}, e ≤ e' → VdK I ds e → VdK I' ds e'
  | [], _, _, _, _ => trivial
  | (k, d) :: ds, _, _, he, h => by
    unfold VdK at h ⊢
    exact ⟨Vd.mono hI k he h.1, Vd.mono hI d he h.2.1, VdK.mono hI ds he h.2.2⟩
end
theorem VdL.all {I e : Nat} : ∀ {ds : List PyData}, VdL I ds e ↔ ∀ d ∈ ds, Vd I d e
  | [] => ⟨fun _ _ h => (by cases h), fun _ => trivial⟩
  | d :: ds => by
    unfold VdL
    rw [VdL.all (ds := ds)]
    exact ⟨fun h x hx => by
      rcases List.mem_cons.mp hx with q | q
      · rw [q]; exact h.1
      · exact h.2 x q, fun h => ⟨h d List.mem_cons_self, fun x hx => h x (List.mem_cons_of_mem _ hx)⟩⟩
mutual
theorem Vd.deep {I : Nat} : ∀ (d : PyData) {e : Nat}, Vd I d e → d.depth ≤ e
  | .none, _, _ => Nat.zero_le _
  | .bool _, _, _ => Nat.zero_le _
  | .int i, _, h => Nat.zero_le _
  | .str z, _, h => Nat.zero_le _
  | .list ds, e, h => by
    unfold Vd at h
    have q := VdL.deep ds h.2
    show PyData.depthAll ds + 1 ≤ e
    omega
  | .tuple ds, e, h => by
    unfold Vd at h
    have q := VdL.deep ds h.2
    show PyData.depthAll ds + 1 ≤ e
    omega
  | .dict kvs, e, h => by
    unfold Vd at h
    have q := VdK.deep kvs h.2
    show PyData.depthKv kvs + 1 ≤ e
    omega
theorem VdL.deep {I : Nat} : ∀ (ds : List PyData) {e : Nat}, VdL I ds e → PyData.depthAll ds ≤ e
  | [], _, _ => Nat.zero_le _
  | d :: ds, e, h => by
    unfold VdL at h
    have q1 := Vd.deep d h.1
    have q2 := VdL.deep ds h.2
    show max d.depth (PyData.depthAll ds) ≤ e
    omega
theorem VdK.deep {I : Nat} : ∀ (ds : List (PyData × PyData)) {e : Nat}, VdK I ds e → PyData.depthKv ds ≤ e
  | [], _, _ => Nat.zero_le _
  | (k, d) :: ds, e, h => by
    unfold VdK at h
    have q1 := Vd.deep k h.1
    have q2 := Vd.deep d h.2.1
    have q3 := VdK.deep ds h.2.2
    show max (max k.depth d.depth) (PyData.depthKv ds) ≤ e
    omega
end
mutual
theorem Vd.show {I : Nat} (hI : I < 2 ^ 1000) : ∀ (d : PyData) {e : Nat}, Vd I d e → d.showable = true
  | .none, _, _ => rfl
  | .bool _, _, _ => rfl
  | .int i, _, h => by
    unfold Vd at h
    show decide (i.natAbs.log2 < 1920) = true
    refine decide_eq_true ?_
    by_cases h0 : i.natAbs = 0
    · rw [h0]; decide
    · have q : i.natAbs.log2 < 1000 := (Nat.log2_lt h0).mpr (Nat.lt_of_le_of_lt h hI)
      omega
  | .str z, _, h => rfl
  | .list ds, e, h => by
    unfold Vd at h
    exact VdL.show hI ds h.2
  | .tuple ds, e, h => by
    unfold Vd at h
    exact VdL.show hI ds h.2
  | .dict kvs, e, h => by
    unfold Vd at h
    exact VdK.show hI kvs h.2
theorem VdL.show {I : Nat} (hI : I < 2 ^ 1000) : ∀ (ds : List PyData) {e : Nat}, VdL I ds e → PyData.showableAll ds = true
  | [], _, _ => rfl
  | d :: ds, e, h => by
    unfold VdL at h
    show (d.showable && PyData.showableAll ds) = true
    rw [Bool.and_eq_true]
    exact ⟨Vd.show hI d h.1, VdL.show hI ds h.2⟩
theorem VdK.show {I : Nat} (hI : I < 2 ^ 1000) : ∀ (ds : List (PyData × PyData)) {e : Nat}, VdK I ds e → PyData.showableKv ds = true
  | [], _, _ => rfl
  | (k, d) :: ds, e, h => by
    unfold VdK at h
    show (k.showable && d.showable && PyData.showableKv ds) = true
    rw [Bool.and_eq_true, Bool.and_eq_true]
    exact ⟨⟨Vd.show hI k h.1, Vd.show hI d h.2.1⟩, VdK.show hI ds h.2.2⟩
end
/-! ### how long what is shown may be -/
mutual
def wt : PyData → Nat
  | .none => 4
  | .bool _ => 5
  | .int _ => 70
  | .str z => 10 * z.length + 2
  | .list ds => 3 + wtL ds
  | .tuple ds => 3 + wtL ds
  | .dict kvs => 3 + wtK kvs
def wtL : List PyData → Nat
  | [] => 0
  | d :: ds => wt d + 2 + wtL ds
def wtK : List (PyData × PyData) → Nat
  | [] => 0
  | (k, d) :: r => wt k + wt d + 4 + wtK r
end
theorem wtL_app : ∀ (a b : List PyData), wtL (a ++ b) = wtL a + wtL b
  | [], b => by show wtL b = 0 + wtL b; omega
  | d :: a, b => by
    show wt d + 2 + wtL (a ++ b) = wt d + 2 + wtL a + wtL b
    rw [wtL_app a b]
    omega
theorem wtL_rev : ∀ (a : List PyData), wtL a.reverse = wtL a
  | [] => rfl
  | d :: a => by
    rw [List.reverse_cons, wtL_app, wtL_rev a]
    show wtL a + (wt d + 2 + 0) = wt d + 2 + wtL a
    omega
theorem wtL_cut (a : List PyData) (n : Nat) : wtL a = wtL (a.take n) + wtL (a.drop n) := by
  rw [← wtL_app, List.take_append_drop]
theorem wtL_rep (a : List PyData) : ∀ (k : Nat), wtL (List.replicate k a).flatten = k * wtL a
  | 0 => by simp [wtL]
  | k + 1 => by
    rw [List.replicate_succ, List.flatten_cons, wtL_app, wtL_rep a k, Nat.add_mul]
    omega
theorem wtL_mem {a : List PyData} {d : PyData} (h : d ∈ a) : wt d + 2 ≤ wtL a := by
  induction a with
  | nil => cases h
  | cons x a ih =>
    show wt d + 2 ≤ wt x + 2 + wtL a
    rcases List.mem_cons.mp h with e | e
    · rw [e]; omega
    · have := ih e
      omega
theorem wtL_le {k : Nat} : ∀ {a : List PyData}, (∀ d ∈ a, wt d ≤ k) → wtL a ≤ a.length * (k + 2)
  | [], _ => by simp [wtL]
  | x :: a, h => by
    have h1 := h x List.mem_cons_self
    have h2 := wtL_le (a := a) fun d hd => h d (List.mem_cons_of_mem _ hd)
    show wt x + 2 + wtL a ≤ (a.length + 1) * (k + 2)
    rw [Nat.add_mul]
    omega
theorem int_len {i : Int} (h : i.natAbs < 10 ^ 60) : (Str.ofString (toString i)).length ≤ 65 := by
  have h1 := PySem.int_text_length_le10 (k := 60) (by decide) h
  rw [PySem.ofString_length]
  omega
theorem int_sa (i : Int) : SA (Str.ofString (toString i)) := fun c hc => by
  cases Nat.lt_or_ge c 128 with
  | inl h => exact h
  | inr h => exact absurd hc (int_text_free' c ⟨by omega, .inr (by omega)⟩ i)
theorem text_from : ∀ (ts : List Str) (k : Nat) (acc : Str), (textFrom k acc ts).length ≤ acc.length + piled ts
  | [], k, acc => by show acc.length ≤ acc.length + 0; omega
  | t :: r, k, acc => by
    have h := text_from r (k + 1) (acc ++ (if k > 0 then ", " else "" : String) ++ t)
    rw [strLen_append, strLen_append] at h
    have hs : ((if k > 0 then ", " else "" : String) : Str).length ≤ 2 := by split <;> decide +kernel
    rw [piled_cons]
    show (textFrom (k + 1) (acc ++ (if k > 0 then ", " else "" : String) ++ t) r).length ≤ _
    omega
theorem join_le (ts : List Str) : (Str.join ", " ts).length ≤ piled ts := by
  cases ts with
  | nil => decide +kernel
  | cons t r =>
    have := join_length_add (t :: r) (by simp)
    omega
theorem list_le (ts : List Str) : (listText ts).length ≤ 3 + piled ts := by
  unfold listText
  rw [strLen_append]
  have h := text_from ts 0 "["
  have e1 : ("[" : Str).length = 1 := by decide +kernel
  have e2 : ("]" : Str).length = 1 := by decide +kernel
  omega
theorem tuple_le (ts : List Str) : (tupleText ts).length ≤ 3 + piled ts := by
  unfold tupleText
  rw [strLen_append, strLen_append]
  have h := join_le ts
  have e1 : ("(" : Str).length = 1 := by decide +kernel
  have e2 : ((if ts.length == 1 then ",)" else ")" : String) : Str).length ≤ 2 := by split <;> decide +kernel
  omega
theorem dict_le (ts : List Str) : (dictText ts).length ≤ 3 + piled ts := by
  unfold dictText
  rw [strLen_append, strLen_append]
  have h := join_le ts
  have e1 : ("{" : Str).length = 1 := by decide +kernel
  have e2 : ("}" : Str).length = 1 := by decide +kernel
  omega
mutual
theorem shown_le {I : Nat} (hI : I < 10 ^ 60) : ∀ (d : PyData) {e : Nat}, Vd I d e → d.shown.length ≤ wt d
  | .none, _, _ => by show ("None" : Str).length ≤ 4; decide +kernel
  | .bool b, _, _ => by cases b <;> (show Str.length _ ≤ 5; decide +kernel)
  | .int i, _, h => by
    have h2 : i.natAbs ≤ I := h
    have := (int_len (i := i) (by omega))
    show (Str.ofString (toString i)).length ≤ 70
    omega
  | .str z, _, h => by
    have h2 : SA z := h
    show (PyData.str z).shown.length ≤ 10 * z.length + 2
    exact StrLaws.reprText_len z fun c hc => by
      have := h2 c hc
      exact Nat.lt_trans this (by decide)
  | .list ds, e, h => by
    unfold Vd at h
    have := shownL_le hI ds h.2
    have := list_le (PyData.shownAll ds)
    show (listText (PyData.shownAll ds)).length ≤ 3 + wtL ds
    omega
  | .tuple ds, e, h => by
    unfold Vd at h
    have := shownL_le hI ds h.2
    have := tuple_le (PyData.shownAll ds)
    show (tupleText (PyData.shownAll ds)).length ≤ 3 + wtL ds
    omega
  | .dict kvs, e, h => by
    unfold Vd at h
    have := shownK_le hI kvs h.2
    have := dict_le (PyData.shownKv kvs)
    show (dictText (PyData.shownKv kvs)).length ≤ 3 + wtK kvs
    omega
theorem shownL_le {I : Nat} (hI : I < 10 ^ 60) : ∀ (ds : List PyData) {e : Nat}, VdL I ds e → piled (PyData.shownAll ds) ≤ wtL ds
  | [], _, _ => Nat.le_refl _
  | d :: ds, e, h => by
    unfold VdL at h
    have h1 := shown_le hI d h.1
    have h2 := shownL_le hI ds h.2
    show piled (d.shown :: PyData.shownAll ds) ≤ wt d + 2 + wtL ds
    rw [piled_cons]
    omega
theorem shownK_le {I : Nat} (hI : I < 10 ^ 60) : ∀ (ds : List (PyData × PyData)) {e : Nat}, VdK I ds e → piled (PyData.shownKv ds) ≤ wtK ds
  | [], _, _ => Nat.le_refl _
  | (k, d) :: ds, e, h => by
    unfold VdK at h
    have h1 := shown_le hI k h.1
    have h2 := shown_le hI d h.2.1
    have h3 := shownK_le hI ds h.2.2
    show piled ((k.shown ++ ": " ++ d.shown) :: PyData.shownKv ds) ≤ wt k + wt d + 4 + wtK ds
    rw [piled_cons, strLen_append, strLen_append]
    have e1 : (": " : Str).length = 2 := by decide +kernel
    omega
end
end Fi
/-! What all laws share: the deck, draws, picks. -/
namespace Fi
open PySem PySem.Spec PyProof.Rows L2
theorem kBool_i {b : Bool} {A B : Prop} (h1 : b = true → A) (h2 : b = false → B) : kBool b A B := by
  cases b
  · exact h2 rfl
  · exact h1 rfl
theorem kBool_t {b : Bool} {A B : Prop} (h : b = true) (h1 : A) : kBool b A B := by subst h; exact h1
theorem kBool_f {b : Bool} {A B : Prop} (h : b = false) (h1 : B) : kBool b A B := by subst h; exact h1
theorem kOpt_i {α : Type} {o : Option α} {K : α → Prop} {v : α} (h : o = some v) (k : K v) : kOpt o K := by rw [h]; exact k
theorem kOpt_if {α : Type} {c : Prop} [Decidable c] {v : α} {K : α → Prop} (h : c) (k : K v) : kOpt (if c then some v else none) K := by rw [if_pos h]; exact k
theorem mul_r {e : Env} {i j : Int} (h : (decide (-(2 ^ 64) < j) && decide (j < 2 ^ 64)) = true) : binU .mul e (.d (.int i)) (.d (.int j)) = some (.d (.int (i * j))) := by
  show (if bMul i j = true then some (U.d (.int (i * j))) else none) = _
  rw [if_pos]
  unfold bMul
  rw [h, Bool.or_true]
theorem mul_l {e : Env} {i j : Int} (h : (decide (-(2 ^ 64) < i) && decide (i < 2 ^ 64)) = true) : binU .mul e (.d (.int i)) (.d (.int j)) = some (.d (.int (i * j))) := by
  show (if bMul i j = true then some (U.d (.int (i * j))) else none) = _
  rw [if_pos]
  unfold bMul
  rw [h, Bool.true_or]
theorem mul_b {e : Env} {i j : Int} (h : -(2 ^ 64) < j ∧ j < 2 ^ 64) : binU .mul e (.d (.int i)) (.d (.int j)) = some (.d (.int (i * j))) := mul_r (by simp only [Bool.and_eq_true, decide_eq_true_eq]; exact h)
theorem mod_i {e : Env} {i j : Int} (h : 0 < j) : binU .mod e (.d (.int i)) (.d (.int j)) = some (.d (.int (i % j))) := by
  show ((if 0 < j then some (i % j) else none : Option Int).map fun k => U.d (.int k)) = _
  rw [if_pos h]; rfl
theorem fdiv_i {e : Env} {i j : Int} (h : 0 < j ∧ j < 1073741824) : binU .fdiv e (.d (.int i)) (.d (.int j)) = some (.d (.int (i / j))) := by
  show ((if 0 < j ∧ j < 1073741824 then some (i / j) else none : Option Int).map fun k => U.d (.int k)) = _
  rw [if_pos h]; rfl
/-! ### the deck -/
def iOs (xs : List Int) : List O := xs.map fun i => .leaf (.int i)
inductive Dk : O → Prop
  | mk (cells : List Int) (mixed draws : Int) (hl : cells.length ≤ 63) : Dk (.dic [(.inr "cells", .lst (iOs cells)), (.inr "mixed", .leaf (.int mixed)), (.inr "draws", .leaf (.int draws))])
def drawB (a b : Int) : CSs := (.cons (.st ⟨0, .nil, (.cst (.str "draws"))⟩ (.bin .add (.sub (.pv 0) (.cst (.str "draws"))) (.cst (.int (1))))) (.cons (.set 2 (.bin .add (.sub (.pv 0) (.cst (.str "mixed"))) (.bin .mul (.cst (.int (61473))) (.sub (.pv 0) (.cst (.str "draws")))))) (.cons (.ite (.cmpP true 0 (.cons (.cst (.str "cells")) .nil) (.lst .nil)) (.cons (.set 3 (.mu .pop 0 (.cons (.cst (.str "cells")) .nil) .nil)) (.cons (.ite (.cmp .ge (.pv 3) (.bin .pow (.cst (.int (10))) (.cst (.int (18))))) (.cons (.ex (.mu .append 0 (.cons (.cst (.str "cells")) .nil) (.cons (.bin .fdiv (.soft 3) (.bi .max2 (.cons (.cst (.int (2))) (.cons (.pv 1) .nil)))) .nil))) (.cons (.ret (.bin .mod (.bi .int (.cons (.pv 3) .nil)) (.soft 1))) .nil)) .nil) (.cons (.set 2 (.bin .add (.soft 2) (.bin .mod (.bi .int (.cons (.pv 3) .nil)) (.cst (.int (2147483629)))))) .nil))) .nil) (.cons (.set 2 (.bin .mod (.bi .int (.cons (.bin .add (.bin .mul (.soft 2) (.cst (.int (39373)))) (.cst (.int a))) .nil)) (.cst (.int (2147483647))))) (.cons (.set 2 (.bin .mod (.bi .int (.cons (.bin .add (.bin .add (.bin .mul (.soft 2) (.soft 2)) (.bin .mul (.cst (.int (52713))) (.sub (.pv 0) (.cst (.str "draws"))))) (.cst (.int b))) .nil)) (.cst (.int (2147483587))))) (.cons (.set 2 (.bin .mod (.bi .int (.cons (.bin .mul (.soft 2) (.cst (.int (40692)))) .nil)) (.cst (.int (2147483563))))) (.cons (.ret (.bin .mod (.bi .int (.cons (.bin .fdiv (.soft 2) (.cst (.int (64)))) .nil)) (.soft 1))) .nil)))))))
theorem frzL_iOs : ∀ xs : List Int, frzL (iOs xs) = xs.map .int
  | [] => rfl
  | x :: xs => by show frz _ :: frzL (iOs xs) = _; rw [frzL_iOs xs]; rfl
theorem iOs_last (xs : List Int) (c : Int) : (iOs (xs ++ [c]))[(iOs (xs ++ [c])).length - 1]? = some (.leaf (.int c)) ∧ (iOs (xs ++ [c])).eraseIdx ((iOs (xs ++ [c])).length - 1) = iOs xs := by
  have e : iOs (xs ++ [c]) = iOs xs ++ [.leaf (.int c)] := by unfold iOs; rw [List.map_append]; rfl
  rw [e]
  constructor
  · simp
  · simp [List.eraseIdx_append_of_length_le]
theorem pop_iOs (xs : List Int) (c : Int) : popU [] (.lst (iOs (xs ++ [c]))) = some (.lst (iOs xs), .d (.int c)) := by
  obtain ⟨h1, h2⟩ := iOs_last xs c
  show ((iOs (xs ++ [c]))[(iOs (xs ++ [c])).length - 1]?).map (fun y => (O.lst ((iOs (xs ++ [c])).eraseIdx ((iOs (xs ++ [c])).length - 1)), y.toU)) = _
  rw [h1, h2]
  rfl
theorem app_iOs {xs : List Int} {c : Int} (h : xs.length < 100) : appU [.d (.int c)] (.lst (iOs xs)) = some (.lst (iOs (xs ++ [c])), .d .none) := by
  have e : iOs (xs ++ [c]) = iOs xs ++ [.leaf (.int c)] := by unfold iOs; rw [List.map_append]; rfl
  have hl : (iOs xs).length = xs.length := by unfold iOs; rw [List.length_map]
  show (if (iOs xs).length < most then some (O.lst (iOs xs ++ [.leaf (.int c)]), U.d .none) else none) = _
  rw [if_pos (by rw [hl]; unfold most; omega), e]
abbrev dkO (x p q : O) : O := .dic [(.inr "cells", x), (.inr "mixed", p), (.inr "draws", q)]
theorem upd_cells {f : O → Option (O × U)} {z x p q : O} {u : U} (h : f x = some (z, u)) : O.upd f (dkO x p q) [.str "cells"] = some (dkO z p q, u) := by
  have e : O.upd f (dkO x p q) [.str "cells"] = (f x).bind fun (z, u) => ((dkO x p q).put (.str "cells") z).map fun w => (w, u) := rfl
  rw [e, h]; rfl
section
variable {tb : Tb} {ds : List Df} {l g : Nat} {a b : Int} {o : O} {many : Int} {K : U → List U → Prop} {X : Xn → List U → Prop}
set_option maxHeartbeats 4000000
theorem draw_end {F : Nat → List U → Cr} {N B C : KE} {X : KX} {o : O} {n m : Int} {z : Option U} (hD : Dk o) (hm : 0 < m) {K0 : U → List U → Prop} (h : ∀ o' r, Dk o' → 0 ≤ r → r < m → K0 (.d (.int r)) [.o o', .gone]) :
    kSs F (.cons (.set 2 (.bin .mod (.bi .int (.cons (.bin .add (.bin .mul (.soft 2) (.cst (.int (39373)))) (.cst (.int a))) .nil)) (.cst (.int (2147483647))))) (.cons (.set 2 (.bin .mod (.bi .int (.cons (.bin .add (.bin .add (.bin .mul (.soft 2) (.soft 2)) (.bin .mul (.cst (.int (52713))) (.sub (.pv 0) (.cst (.str "draws"))))) (.cst (.int b))) .nil)) (.cst (.int (2147483587))))) (.cons (.set 2 (.bin .mod (.bi .int (.cons (.bin .mul (.soft 2) (.cst (.int (40692)))) .nil)) (.cst (.int (2147483563))))) (.cons (.ret (.bin .mod (.bi .int (.cons (.bin .fdiv (.soft 2) (.cst (.int (64)))) .nil)) (.soft 1))) .nil))))
      [some (.o o), some (.d (.int m)), some (.d (.int n)), z] N B C (fun u e => kOk u (K0 u (outs ⟨2, 4, [0], drawB a b⟩ e))) X := by
  cases hD with
  | mk cells mixed draws hl =>
    conv => whnf
    refine kOpt_i (mul_r (by decide)) ?_
    conv => whnf
    refine kOpt_i (mul_b (by constructor <;> omega)) ?_
    conv => whnf
    refine kOpt_i (mul_r (by decide)) ?_
    conv => whnf
    refine kOpt_i (mod_i hm) ?_
    exact h _ _ (.mk cells mixed draws hl) (Int.emod_nonneg _ (by omega)) (Int.emod_lt_of_pos _ hm)
theorem draw_k (hd : (ds.map (Df.core tb))[g]? = some ⟨2, 4, [0], drawB a b⟩) (hD : Dk o) (h0 : 0 < many) (h1 : many < 1073741824) (h : ∀ o' r, Dk o' → 0 ≤ r → r < many → K (.d (.int r)) [.o o', .gone]) : kCall (Fl tb ds (l + 1) g [.o o, .d (.int many)]) K X := by
  refine kDef hd rfl ?_
  cases hD with
  | mk cells mixed draws hl =>
    conv => whnf
    rcases List.eq_nil_or_concat cells with e | ⟨cs, c, e⟩
    · subst e
      conv => whnf
      exact draw_end (z := none) (K0 := K) (X := fun x e => X x (outs ⟨2, 4, [0], drawB a b⟩ e)) (.mk [] mixed (draws + 1) hl) h0 h
    · rw [List.concat_eq_append] at e
      subst e
      refine kBool_t (by rw [frzL_iOs]; simp) ?_
      conv => whnf
      refine kOpt_i (upd_cells (pop_iOs cs c)) ?_
      conv => whnf
      refine kBool_i (fun hc => ?_) fun hc => ?_
      · conv => whnf
        refine kOpt_i (fdiv_i (by split <;> omega)) ?_
        conv => whnf
        refine kOpt_i (upd_cells (app_iOs (by simp at hl; omega))) ?_
        conv => whnf
        refine kOpt_i (mod_i h0) ?_
        exact h _ _ (.mk (cs ++ [_]) mixed (draws + 1) (by simpa using hl)) (Int.emod_nonneg _ (by omega)) (Int.emod_lt_of_pos _ h0)
      · conv => whnf
        exact draw_end (z := some (.d (.int c))) (K0 := K) (X := fun x e => X x (outs ⟨2, 4, [0], drawB a b⟩ e)) (.mk cs mixed (draws + 1) (by simp at hl; omega)) h0 h
end
end Fi
/-! What all laws share: the deck is made; picks. -/
namespace Fi
open PySem PySem.Spec PyProof.Rows L2
def deckB (m a : Int) : CSs := (.cons (.set 1 (.cst (.int m))) (.cons (.loop (.name 2) (.seq (.slc (.pv 0) .none (.some (.cst (.int (63)))))) (.cons (.set 1 (.bin .mod (.bi .int (.cons (.bin .add (.bin .add (.bin .mul (.soft 1) (.cst (.int (69621)))) (.bin .mod (.bi .int (.cons (.pv 2) .nil)) (.cst (.int (2147483629))))) (.cst (.int a))) .nil)) (.cst (.int (2147483587))))) .nil)) (.cons (.ret (.dic (.cons (.cst (.str "cells")) (.cons (.rev (.bi .list (.cons (.slc (.pv 0) .none (.some (.cst (.int (63))))) .nil))) (.cons (.cst (.str "mixed")) (.cons (.var 1) (.cons (.cst (.str "draws")) (.cons (.cst (.int (0))) .nil)))))))) .nil)))
theorem cut63 (ns : List Int) : cutD (ns.map PyData.int) none (some 63) = (ns.take 63).map PyData.int := by
  unfold cutD
  rw [show HT.sIx (ns.map PyData.int).length 0 none = 0 from rfl, show HT.sIx (ns.map PyData.int).length (ns.map PyData.int).length (some 63) = min 63 (ns.map PyData.int).length from HT.sIx_nat _ _ 63, List.drop_zero, Nat.sub_zero, ← List.map_take, List.length_map]
  congr 1
  rcases Nat.lt_or_ge ns.length 63 with h | h
  · rw [Nat.min_eq_right (by omega), List.take_of_length_le (Nat.le_refl _), List.take_of_length_le (by omega)]
  · rw [Nat.min_eq_left h]
theorem frzL_leafs : ∀ xs : List PyData, frzL (xs.map O.leaf) = xs
  | [] => rfl
  | x :: xs => by show frz (.leaf x) :: frzL (xs.map O.leaf) = _; rw [frzL_leafs xs]; rfl
theorem flats_leafs : ∀ xs : List PyData, flats (xs.map O.leaf) = some xs
  | [] => rfl
  | x :: xs => by
    show (match flat1 (.leaf x), flats (xs.map O.leaf) with | some y, some ys => some (y :: ys) | _, _ => none) = _
    rw [flats_leafs xs]; rfl
section
variable {tb : Tb} {ds : List Df} {l g : Nat} {m a : Int} {K : U → List U → Prop} {X : Xn → List U → Prop}
theorem deck_k {ns : List Int} (hd : (ds.map (Df.core tb))[g]? = some ⟨1, 3, [], deckB m a⟩) (h : ∀ o, Dk o → K (.o o) [.gone]) : kCall (Fl tb ds (l + 1) g [.s ns]) K X := by
  refine kDef hd rfl ?_
  conv => whnf
  rw [frzL_leafs, cut63]
  refine kFor_inv (fun rest e => (∀ d ∈ rest, ∃ i, d = .int i) ∧ ∃ m' z, e = [some (.s ns), some (.d (.int m')), z]) ⟨fun d hd => ?_, m, none, rfl⟩ ?_ ?_
  · obtain ⟨i, _, e⟩ := List.mem_map.mp hd
    exact ⟨i, e.symm⟩
  · rintro d ds e ⟨h1, m', z, rfl⟩
    obtain ⟨i, rfl⟩ := h1 d List.mem_cons_self
    conv => whnf
    refine kOpt_i (mul_r (by decide)) ?_
    exact ⟨fun d hd => h1 d (List.mem_cons_of_mem _ hd), _, _, rfl⟩
  · rintro e ⟨_, m', z, rfl⟩
    conv => whnf
    rw [cut63, frzL_leafs, frzL_leafs, ← List.map_reverse, List.map_map]
    exact h _ (.mk (ns.take 63).reverse m' 0 (by simp; omega))
end
end Fi
/-! Rules that all laws use: comprehensions, cuts, sizes. -/
namespace Fi
open PySem PySem.Spec PyProof.Rows L2
section
variable {F : Nat → List U → Cr}
theorem kLc_map {x : CE} {t : CT} {vs : List Nat} {xs : List PyData} {e : Env} {K : KU} (g : PyData → PyData) (hl : xs.length ≤ most) (he : wipeE e vs = e)
    (hs : ∀ d ∈ xs, kTurn F x t .nil d e (fun u e3 => u.dat = some (g d) ∧ wipeE e3 vs = e) fun _ => False) (hk : K (nl (xs.map g)) e) : kLc F x t .nil vs xs e K := by
  refine kLc_invT (fun acc rest e1 => e1 = e ∧ (∀ d ∈ rest, d ∈ xs) ∧ acc ++ rest.map g = xs.map g) hl ⟨he, fun _ h => h, rfl⟩ ?_ ?_
  · rintro d ds acc e1 ⟨rfl, h1, h2⟩
    have hr : ∀ z ∈ ds, z ∈ xs := fun z hz => h1 z (List.mem_cons_of_mem _ hz)
    refine tTurn_mono (kTurn_ok (hs d (h1 d List.mem_cons_self))) ?_ fun _ z => z.elim
    rintro u e3 ⟨q1, q3⟩
    refine ⟨_, q1, q3, hr, ?_⟩
    rw [← h2, List.map_cons, List.append_assoc]; rfl
  · rintro acc e1 ⟨rfl, _, h⟩
    rw [List.map_nil, List.append_nil] at h
    rw [h]; exact hk
theorem kLc_filter {x : CE} {t : CT} {ifs : CEs} {vs : List Nat} {xs : List PyData} {e : Env} {K : KU} (p : PyData → Bool) (g : PyData → PyData) (hl : xs.length ≤ most) (he : wipeE e vs = e)
    (hs : ∀ d ∈ xs, kTurn F x t ifs d e (fun u e3 => p d = true ∧ u.dat = some (g d) ∧ wipeE e3 vs = e) fun e3 => p d = false ∧ wipeE e3 vs = e) (hk : K (nl ((xs.filter p).map g)) e) : kLc F x t ifs vs xs e K := by
  refine kLc_invT (fun acc rest e1 => e1 = e ∧ (∀ d ∈ rest, d ∈ xs) ∧ acc ++ (rest.filter p).map g = (xs.filter p).map g) hl ⟨he, fun _ h => h, rfl⟩ ?_ ?_
  · rintro d ds acc e1 ⟨rfl, h1, h2⟩
    have hr : ∀ z ∈ ds, z ∈ xs := fun z hz => h1 z (List.mem_cons_of_mem _ hz)
    refine tTurn_mono (kTurn_ok (hs d (h1 d List.mem_cons_self))) ?_ ?_
    · rintro u e3 ⟨q0, q1, q3⟩
      refine ⟨_, q1, q3, hr, ?_⟩
      rw [← h2, List.filter_cons, if_pos q0, List.map_cons, List.append_assoc]; rfl
    · rintro e3 ⟨q0, q3⟩
      refine ⟨q3, hr, ?_⟩
      rw [← h2, List.filter_cons, if_neg (by rw [q0]; decide)]
  · rintro acc e1 ⟨rfl, _, h⟩
    rw [List.filter_nil, List.map_nil, List.append_nil] at h
    rw [h]; exact hk
end
theorem allB_map {α : Type} (p : α → Bool) : ∀ xs : List α, allB (xs.map fun x => PyData.bool (p x)) = some (xs.map p)
  | [] => rfl
  | x :: xs => by show (allB (xs.map fun x => PyData.bool (p x))).map (p x :: ·) = _; rw [allB_map p xs]; rfl
theorem all_nl {e : Env} (p : PyData → Bool) (xs : List PyData) : biU .all e [nl (xs.map fun x => PyData.bool (p x))] = some (.d (.bool (xs.all p))) := by
  show ((some (frzL ((xs.map fun x => PyData.bool (p x)).map O.leaf))).bind allB).map _ = _
  rw [frzL_leafs]
  show (allB (xs.map fun x => PyData.bool (p x))).map _ = _
  rw [allB_map]
  show some (U.d (.bool ((xs.map p).all id))) = _
  rw [List.all_map]; rfl
theorem any_nl {e : Env} (p : PyData → Bool) (xs : List PyData) : biU .any e [nl (xs.map fun x => PyData.bool (p x))] = some (.d (.bool (xs.any p))) := by
  show ((some (frzL ((xs.map fun x => PyData.bool (p x)).map O.leaf))).bind allB).map _ = _
  rw [frzL_leafs]
  show (allB (xs.map fun x => PyData.bool (p x))).map _ = _
  rw [allB_map]
  show some (U.d (.bool ((xs.map p).any id))) = _
  rw [List.any_map]; rfl
theorem lc_empty (p : PyData → Bool) (g : PyData → PyData) (xs : List PyData) : (frzL (((xs.filter p).map g).map O.leaf)).isEmpty = xs.all fun x => !p x := by
  rw [frzL_leafs]
  induction xs with
  | nil => rfl
  | cons x xs ih =>
    rw [List.filter_cons, List.all_cons]
    cases h : p x with
    | true => rfl
    | false => rw [if_neg (by decide), ih]; rfl
/-! ### cuts -/
theorem cut_lo {α : Type} (xs : List α) (n : Nat) : cutD xs (some (n : Int)) none = xs.drop n := by
  unfold cutD
  rw [show HT.sIx xs.length 0 (some (n : Int)) = min n xs.length from HT.sIx_nat _ _ n, show HT.sIx xs.length xs.length none = xs.length from rfl]
  rcases Nat.lt_or_ge n xs.length with h | h
  · rw [Nat.min_eq_left (by omega), List.take_of_length_le (by simp)]
  · rw [Nat.min_eq_right h, List.drop_of_length_le (Nat.le_refl _), List.drop_of_length_le h]; simp
theorem cut_hi {α : Type} (xs : List α) (n : Nat) : cutD xs none (some (n : Int)) = xs.take n := by
  unfold cutD
  rw [show HT.sIx xs.length xs.length (some (n : Int)) = min n xs.length from HT.sIx_nat _ _ n, show HT.sIx xs.length 0 none = 0 from rfl, List.drop_zero, Nat.sub_zero]
  rcases Nat.lt_or_ge n xs.length with h | h
  · rw [Nat.min_eq_left (by omega)]
  · rw [Nat.min_eq_right h, List.take_of_length_le (Nat.le_refl _), List.take_of_length_le h]
theorem cut_mid {α : Type} (xs : List α) (m n : Nat) : cutD xs (some (m : Int)) (some (n : Int)) = (xs.take n).drop m := by
  unfold cutD
  rw [show HT.sIx xs.length xs.length (some (n : Int)) = min n xs.length from HT.sIx_nat _ _ n, show HT.sIx xs.length 0 (some (m : Int)) = min m xs.length from HT.sIx_nat _ _ m, List.drop_take]
  rcases Nat.lt_or_ge m xs.length with h | h
  · rw [Nat.min_eq_left (Nat.le_of_lt h)]
    rcases Nat.lt_or_ge n xs.length with h2 | h2
    · rw [Nat.min_eq_left (by omega)]
    · rw [Nat.min_eq_right h2, List.take_of_length_le (by simp), List.take_of_length_le (by simp; omega)]
  · rw [Nat.min_eq_right h, List.drop_of_length_le (Nat.le_refl _), List.drop_of_length_le h]; simp
theorem cut_lo1 {α : Type} (xs : List α) (n : Nat) : cutD xs (some ((n : Int) + 1)) none = xs.drop (n + 1) := cut_lo xs (n + 1)
theorem cut_mid1 {α : Type} (xs : List α) (n : Nat) : cutD xs (some (n : Int)) (some ((n : Int) + 1)) = (xs.take (n + 1)).drop n := cut_mid xs n (n + 1)
theorem cut_len {α : Type} (xs : List α) (a b : Option Int) : (cutD xs a b).length ≤ xs.length := by
  unfold cutD
  rw [List.length_take, List.length_drop]
  omega
theorem cut_mem {α : Type} {xs : List α} {a b : Option Int} {y : α} (h : y ∈ cutD xs a b) : y ∈ xs := by
  unfold cutD at h
  exact List.mem_of_mem_drop (List.mem_of_mem_take h)
/-! ### items, in -/
theorem atI_nat {α : Type} {xs : List α} {k : Nat} {y : α} (h : xs[k]? = some y) : atI xs (k : Int) = some y := by
  have hl := (List.getElem?_eq_some_iff.mp h).1
  unfold atI ixN
  rw [if_pos (by omega), if_pos (by omega)]
  show xs[(k : Int).toNat]? = _
  rw [Int.toNat_natCast]; exact h
theorem atI_int {α : Type} {xs : List α} {i : Int} (h0 : 0 ≤ i) (h1 : i < xs.length) : atI xs i = some (xs[i.toNat]'(by omega)) := by
  have h := atI_nat (xs := xs) (k := i.toNat) (List.getElem?_eq_getElem (by omega))
  rw [Int.toNat_of_nonneg h0] at h
  exact h
theorem sub_tupI {e : Env} {xs : List PyData} {i : Int} {y : PyData} (h : atI xs i = some y) : subU e (.d (.tuple xs)) (.d (.int i)) = some (.d y) := by
  show (atI xs i).map U.d = _
  rw [h]; rfl
theorem sub_tup {e : Env} {xs : List PyData} (k : Nat) {y : PyData} (h : xs[k]? = some y) : subU e (.d (.tuple xs)) (.d (.int k)) = some (.d y) := sub_tupI (atI_nat h)
theorem sub_lst {e : Env} {xs : List PyData} {i : Int} {y : PyData} (h : atI xs i = some y) : subU e (.d (.list xs)) (.d (.int i)) = some (.d y) := by
  show (atI xs i).map U.d = _
  rw [h]; rfl
theorem allS_map : ∀ zs : List Str, allS (zs.map .str) = some zs
  | [] => rfl
  | z :: zs => by show (allS (zs.map .str)).map (z :: ·) = _; rw [allS_map zs]; rfl
theorem inU_tup {e : Env} {n : Bool} {x : PyData} {zs : List Str} : inU e n (.d x) (.d (.tuple (zs.map .str))) = some (.d (.bool (n != anyS zs x))) := by
  have h : inU e n (.d x) (.d (.tuple (zs.map .str))) = (inF true x (zs.map .str)).map fun r => .d (.bool (n != r)) := by cases x <;> rfl
  rw [h]
  unfold inF
  rw [allS_map]
  rfl
theorem in_strs {e : Env} {x : PyData} {ys : List PyData} (zs : List Str) (h : ys = zs.map .str := by rfl) : cmpU .in_ e (.d x) (.d (.tuple ys)) = some (.d (.bool (anyS zs x))) := by
  subst h
  have : cmpU .in_ e (.d x) (.d (.tuple (zs.map .str))) = some (.d (.bool (false != anyS zs x))) := inU_tup
  rw [this]
  cases anyS zs x <;> rfl
theorem nin_strs {e : Env} {x : PyData} {ys : List PyData} (zs : List Str) (h : ys = zs.map .str := by rfl) : cmpU .nin e (.d x) (.d (.tuple ys)) = some (.d (.bool (!anyS zs x))) := by
  subst h
  have : cmpU .nin e (.d x) (.d (.tuple (zs.map .str))) = some (.d (.bool (true != anyS zs x))) := inU_tup
  rw [this]
  cases anyS zs x <;> rfl
/-! ### ends -/
theorem KB {K : U → List U → Prop} {b c : Bool} {os : List U} (h : K (.d (.bool b)) os) (e : c = b) : K (.d (.bool c)) os := by rw [e]; exact h
theorem KD {K : U → List U → Prop} {b c : PyData} {os : List U} (h : K (.d b) os) (e : c = b) : K (.d c) os := by rw [e]; exact h
theorem kDec (p : Prop) [Decidable p] {A B : Prop} (h1 : p → A) (h2 : ¬ p → B) : kBool (decide p) A B := by
  by_cases h : p
  · rw [decide_eq_true h]; exact h1 h
  · rw [decide_eq_false h]; exact h2 h
theorem len_str {e : Env} {z : Str} (h : z.length ≤ most) : biU .len e [.d (.str z)] = some (.d (.int z.length)) := by
  show ((if z.length ≤ most then some (z.length : Int) else none).map fun n => U.d (.int n)) = _
  rw [if_pos h]; rfl
theorem len_sv (e : Env) (u : U) {xs : List PyData} (h : sv e u = some xs) : lenU e u = some (xs.length : Int) := by unfold lenU; rw [h]
theorem len_of {e : Env} {u : U} {xs : List PyData} (h : sv e u = some xs) : biU .len e [u] = some (.d (.int xs.length)) := by
  show (lenU e u).map (fun n => U.d (.int n)) = _
  rw [len_sv e u h]; rfl
theorem sub_b {e : Env} {i : Nat} {os : List O} {r : Int} {d : PyData} (h1 : ownAt e i = some (.lst os)) (h2 : atI os r = some (.leaf d)) : subU e (.b i) (.d (.int r)) = some (.d d) := by
  have hk : kidU e (.b i) (.d (.int r)) = some (.d d) := by
    show (match (ownAt e i).bind fun x => x.kid (.int r) with | some (.leaf d) => some (U.d d) | _ => none) = _
    rw [h1]
    show (match atI os r with | some (.leaf d) => some (U.d d) | _ => none) = _
    rw [h2]
  unfold subU
  rw [hk]
theorem eqv_int (i j : Int) : PyData.eqv (.int i) (.int j) = decide (i = j) := Bool.beq_eq_decide_eq i j
theorem eqv_len (i j : Nat) : PyData.eqv (.int i) (.int j) = decide (i = j) := by
  rw [eqv_int]
  exact decide_eq_decide.mpr (by omega)
/-! ### sizes -/
abbrev Sm (x : PyData) : Prop := wt x ≤ 90000
theorem wtL_len : ∀ xs : List PyData, xs.length ≤ wtL xs
  | [] => Nat.zero_le _
  | x :: xs => by
    have := wtL_len xs
    show xs.length + 1 ≤ wt x + 2 + wtL xs
    omega
theorem Sm.str {z : Str} (h : Sm (.str z)) : z.length ≤ most := by have h : 10 * z.length + 2 ≤ 90000 := h; unfold most; omega
theorem Sm.tup {xs : List PyData} (h : Sm (.tuple xs)) : xs.length ≤ most := by have h : 3 + wtL xs ≤ 90000 := h; have := wtL_len xs; unfold most; omega
theorem Sm.lst {xs : List PyData} (h : Sm (.list xs)) : xs.length ≤ most := by have h : 3 + wtL xs ≤ 90000 := h; have := wtL_len xs; unfold most; omega
theorem Sm.item {xs : List PyData} {x : PyData} (h : Sm (.tuple xs)) (hx : x ∈ xs) : Sm x := by have h : 3 + wtL xs ≤ 90000 := h; have := wtL_mem hx; show wt x ≤ _; omega
theorem Sm.itemL {xs : List PyData} {x : PyData} (h : Sm (.list xs)) (hx : x ∈ xs) : Sm x := by have h : 3 + wtL xs ≤ 90000 := h; have := wtL_mem hx; show wt x ≤ _; omega
/-! ### mirrors -/
def intB : PyData → Bool
  | .int _ => true
  | _ => false
/-- an integer of 0 or more -/
def cntB : PyData → Bool
  | .int i => decide (0 ≤ i)
  | _ => false
def inAbc (c : Nat) : Bool := decide (97 ≤ c) && decide (c ≤ 122)
def wrdB : PyData → Bool
  | .str z => decide (1 ≤ z.length) && decide (z.length ≤ 10) && z.cps.toList.all inAbc
  | _ => false
def chars (z : Str) : List PyData := z.cps.toList.map fun c => .str ⟨#[c]⟩
theorem chars_len (z : Str) : (chars z).length = z.length := by unfold chars Str.length; simp
theorem abc_mem (c : Nat) : decide (c ∈ ("abcdefghijklmnopqrstuvwxyz" : Str).cps.toList) = inAbc c := by
  have e : ("abcdefghijklmnopqrstuvwxyz" : Str).cps.toList = List.range' 97 26 := by decide +kernel
  rw [e]
  unfold inAbc
  rw [← Bool.decide_and]
  refine decide_eq_decide.mpr ?_
  rw [List.mem_range'_1]
  omega
end Fi
/-! How far values are from drawn ones. -/
namespace Fi
open PySem PySem.Spec PyProof.Rows L2
abbrev big40 : Nat := 10000000000000000000000000000000000000000
mutual
def gdB : PyData → Nat → Bool
  | .none, _ => true
  | .bool _, _ => true
  | .int i, _ => decide (i.natAbs ≤ big40)
  | .str z, _ => z.cps.toList.all fun c => decide (c < 128)
  | .list ds, 0 => false
  | .list ds, e + 1 => gdBL ds e
  | .tuple ds, 0 => false
  | .tuple ds, e + 1 => gdBL ds e
  | .dict ds, 0 => false
  | .dict ds, e + 1 => gdBK ds e
def gdBL : List PyData → Nat → Bool
  | [], _ => true
  | d :: ds, e => gdB d e && gdBL ds e
def gdBK : List (PyData × PyData) → Nat → Bool
  | [], _ => true
  | (k, d) :: ds, e => gdB k e && gdB d e && gdBK ds e
end
mutual
theorem gdB_ok : ∀ (x : PyData) (e : Nat), gdB x e = true → Vd big40 x e
  | .none, _, _ => trivial
  | .bool _, _, _ => trivial
  | .int i, _, h => by unfold gdB at h; unfold Vd; exact of_decide_eq_true h
  | .str z, _, h => by
    unfold gdB at h; unfold Vd
    exact fun c hc => of_decide_eq_true (List.all_eq_true.mp h c hc)
  | .list ds, 0, h => by unfold gdB at h; cases h
  | .list ds, e + 1, h => by unfold gdB at h; unfold Vd; exact ⟨by omega, gdBL_ok ds e h⟩
  | .tuple ds, 0, h => by unfold gdB at h; cases h
  | .tuple ds, e + 1, h => by unfold gdB at h; unfold Vd; exact ⟨by omega, gdBL_ok ds e h⟩
  | .dict ds, 0, h => by unfold gdB at h; cases h
  | .dict ds, e + 1, h => by unfold gdB at h; unfold Vd; exact ⟨by omega, gdBK_ok ds e h⟩
theorem gdBL_ok : ∀ (x : List PyData) (e : Nat), gdBL x e = true → VdL big40 x e
  | [], _, _ => trivial
  | d :: ds, e, h => by
    unfold gdBL at h; unfold VdL
    rw [Bool.and_eq_true] at h
    exact ⟨gdB_ok d e h.1, gdBL_ok ds e h.2⟩
theorem gdBK_ok : ∀ (x : List (PyData × PyData)) (e : Nat), gdBK x e = true → VdK big40 x e
  | [], _, _ => trivial
  | (k, d) :: ds, e, h => by
    unfold gdBK at h; unfold VdK
    rw [Bool.and_eq_true, Bool.and_eq_true] at h
    exact ⟨gdB_ok k e h.1.1, gdB_ok d e h.1.2, gdBK_ok ds e h.2⟩
end
theorem Vd.tupI {I e : Nat} {xs : List PyData} : Vd I (.tuple xs) e ↔ 1 ≤ e ∧ ∀ x ∈ xs, Vd I x (e - 1) := by
  rw [← VdL.all]
  constructor
  · intro h; unfold Vd at h; exact h
  · intro h; unfold Vd; exact h
theorem Vd.lstI {I e : Nat} {xs : List PyData} : Vd I (.list xs) e ↔ 1 ≤ e ∧ ∀ x ∈ xs, Vd I x (e - 1) := by
  rw [← VdL.all]
  constructor
  · intro h; unfold Vd at h; exact h
  · intro h; unfold Vd; exact h
/-! ### texts -/
theorem SA.app {a b : Str} (ha : SA a) (hb : SA b) : SA (a ++ b) := fun c hc => by
  have : (a ++ b).cps.toList = a.cps.toList ++ b.cps.toList := by
    show (a.cps ++ b.cps).toList = _
    simp
  rw [this] at hc
  rcases List.mem_append.mp hc with h | h
  · exact ha c h
  · exact hb c h
theorem SA.cut {z : Str} (h : SA z) (lo hi : Option Int) : SA (cutS z lo hi) := fun c hc => by
  unfold cutS at hc
  exact h c (List.mem_of_mem_drop (List.mem_of_mem_take (by simpa using hc)))
theorem SA.upper {z : Str} (h : SA z) : SA (Txt.upper z) ∧ (Txt.upper z).length = z.length := by
  rw [PyProof.Rows.upper_ascii h]
  refine ⟨fun c hc => ?_, by unfold Str.length; simp⟩
  have : c ∈ z.cps.toList.map PyProof.Rows.up1 := by simpa using hc
  obtain ⟨d, hd, rfl⟩ := List.mem_map.mp this
  have := h d hd
  unfold PyProof.Rows.up1
  split <;> omega
theorem SA.of {z : Str} (h : (z.cps.toList.all fun c => decide (c < 128)) = true) : SA z := fun c hc => of_decide_eq_true (List.all_eq_true.mp h c hc)
/-! ### what stands near a value -/
structure Be (k : Nat) (x y : PyData) : Prop where
  v : ∀ I e, big40 ≤ I → k ≤ e → Vd I x e → Vd (I + 1) y (e + 1)
  w : wt y ≤ 2 * wt x + 1000
theorem Be.mono {k k' : Nat} {x y : PyData} (h : Be k x y) (hk : k ≤ k') : Be k' x y := ⟨fun I e h1 h2 h3 => h.v I e h1 (by omega) h3, h.w⟩
theorem Be.self {x : PyData} : Be 4 x x := ⟨fun I e _ _ h => Vd.mono (by omega) x (by omega) h, by omega⟩
def conB (c : PyData) : Bool := gdB c 4 && decide (wt c ≤ 1000)
theorem Be.con {x c : PyData} (h : conB c = true) : Be 4 x c := by
  unfold conB at h
  rw [Bool.and_eq_true, decide_eq_true_eq] at h
  exact ⟨fun I e h1 h2 _ => Vd.mono (by omega) c (by omega) (gdB_ok c 4 h.1), by omega⟩
theorem Be.int {i j : Int} (h : j.natAbs ≤ i.natAbs + 1) : Be 4 (.int i) (.int j) := ⟨fun I e h1 h2 h3 => by
  have h3 : i.natAbs ≤ I := h3
  show j.natAbs ≤ I + 1
  omega, by show 70 ≤ 2 * 70 + 1000; omega⟩
theorem Be.bool {x : PyData} {b : Bool} : Be 4 x (.bool b) := ⟨fun I e h1 h2 h3 => trivial, by show 5 ≤ _; omega⟩
theorem Be.wrap {x : PyData} : Be 4 x (.tuple [x]) := ⟨fun I e h1 h2 h3 => by
  rw [Vd.tupI]
  refine ⟨by omega, fun y hy => ?_⟩
  rw [List.mem_singleton.mp hy]
  exact Vd.mono (by omega) x (by omega) h3, by show 3 + (wt x + 2 + 0) ≤ _; omega⟩
theorem Be.str {a b : Str} (h : SA a → SA b) (hl : b.length ≤ a.length + 60) : Be 4 (.str a) (.str b) := ⟨fun I e h1 h2 h3 => by
  unfold Vd at h3 ⊢
  exact h h3, by show 10 * b.length + 2 ≤ 2 * (10 * a.length + 2) + 1000; omega⟩
theorem Be.num {i : Int} (I0 : i.natAbs < 10 ^ 60) : Be 4 (.int i) (.str (Str.ofString (toString i))) := ⟨fun I e h1 h2 h3 => by
  unfold Vd
  exact int_sa i, by
  have := int_len I0
  show 10 * (Str.ofString (toString i)).length + 2 ≤ 2 * 70 + 1000
  omega⟩
theorem Be.tup {xs ys : List PyData} (h : ∀ y ∈ ys, y ∈ xs ∨ conB y = true) (hw : wtL ys ≤ 2 * wtL xs + 900) : Be 8 (.tuple xs) (.tuple ys) := ⟨fun I e h1 h2 h3 => by
  rw [Vd.tupI] at h3 ⊢
  refine ⟨by omega, fun y hy => ?_⟩
  rcases h y hy with q | q
  · exact Vd.mono (by omega) y (by omega) (h3.2 y q)
  · unfold conB at q
    rw [Bool.and_eq_true] at q
    exact Vd.mono (by omega) y (by omega) (gdB_ok y 4 q.1), by show 3 + wtL ys ≤ 2 * (3 + wtL xs) + 1000; omega⟩
theorem Be.lst {xs : List PyData} : Be 4 (.tuple xs) (.list xs) := ⟨fun I e h1 h2 h3 => by
  rw [Vd.tupI] at h3
  rw [Vd.lstI]
  exact ⟨by omega, fun y hy => Vd.mono (by omega) y (by omega) (h3.2 y hy)⟩, by show 3 + wtL xs ≤ 2 * (3 + wtL xs) + 1000; omega⟩
theorem Be.item {xs : List PyData} {y : PyData} (h : y ∈ xs) : Be 4 (.tuple xs) y := ⟨fun I e h1 h2 h3 => by
  rw [Vd.tupI] at h3
  exact Vd.mono (by omega) y (by omega) (h3.2 y h), by
  have := wtL_mem h
  show wt y ≤ 2 * (3 + wtL xs) + 1000
  omega⟩
theorem Be.into {k n : Nat} {xs : List PyData} {y : PyData} (hn : n < xs.length) (h : Be k (xs[n]'hn) y) : Be (k + 1) (.tuple xs) (.tuple (xs.take n ++ [y] ++ xs.drop (n + 1))) := ⟨fun I e h1 h2 h3 => by
  rw [Vd.tupI] at h3 ⊢
  refine ⟨by omega, fun z hz => ?_⟩
  rcases List.mem_append.mp hz with q | q
  · rcases List.mem_append.mp q with q | q
    · exact Vd.mono (by omega) z (by omega) (h3.2 z (List.mem_of_mem_take q))
    · rw [List.mem_singleton.mp q]
      have := h.v I (e - 1) h1 (by omega) (h3.2 _ (List.getElem_mem hn))
      exact Vd.mono (Nat.le_refl _) y (by omega) this
  · exact Vd.mono (by omega) z (by omega) (h3.2 z (List.mem_of_mem_drop q)), by
  have e1 : xs = xs.take n ++ (xs[n]'hn :: xs.drop (n + 1)) := by rw [List.getElem_cons_drop]; exact (List.take_append_drop n xs).symm
  have e2 : wtL xs = wtL (xs.take n) + (wt (xs[n]'hn) + 2 + wtL (xs.drop (n + 1))) := by
    conv => lhs; rw [e1]
    rw [wtL_app]; rfl
  have := h.w
  show 3 + wtL (xs.take n ++ [y] ++ xs.drop (n + 1)) ≤ 2 * (3 + wtL xs) + 1000
  rw [wtL_app, wtL_app, e2]
  show 3 + (wtL (xs.take n) + (wt y + 2 + 0) + wtL (xs.drop (n + 1))) ≤ _
  omega⟩
/-- what may be shown -/
theorem Be.Sm {k : Nat} {x y : PyData} (h : Be k x y) (hx : wt x ≤ 40000) : Sm y := by have := h.w; show wt y ≤ 90000; omega
/-- a value that may be drawn on -/
structure Ok0 (x : PyData) : Prop where
  v : Vd (10 ^ 50) x 30
  w : wt x ≤ 40000
theorem Ok0.str {z : Str} (h : Ok0 (.str z)) : SA z ∧ z.length ≤ 4000 := by
  have h1 := h.v
  have h2 : 10 * z.length + 2 ≤ 40000 := h.w
  unfold Vd at h1
  exact ⟨h1, by omega⟩
theorem Ok0.int {i : Int} (h : Ok0 (.int i)) : i.natAbs ≤ 10 ^ 50 := h.v
theorem log_ok {i : Int} (h : i.natAbs < 10 ^ 60) : i.natAbs.log2 < 1920 := by
  by_cases h0 : i.natAbs = 0
  · rw [h0]; decide
  · have q : i.natAbs.log2 < 1000 := (Nat.log2_lt h0).mpr (Nat.lt_of_lt_of_le h (by decide))
    omega
theorem Ok0.tup {xs : List PyData} (h : Ok0 (.tuple xs)) : xs.length ≤ 30000 := by
  have h2 : 3 + wtL xs ≤ 40000 := h.w
  have : ∀ l : List PyData, 2 * l.length + 2 * l.length ≤ wtL l + 2 * l.length := fun l => by
    induction l with
    | nil => simp
    | cons a l ih =>
      show 2 * (l.length + 1) + 2 * (l.length + 1) ≤ wt a + 2 + wtL l + 2 * (l.length + 1)
      omega
  have := this xs
  omega
theorem Ok0.item {xs : List PyData} {y : PyData} (h : Ok0 (.tuple xs)) (hy : y ∈ xs) : Ok0 y := ⟨by
  have := (Vd.tupI.mp h.v).2 y hy
  exact Vd.mono (Nat.le_refl _) y (by omega) this, by
  have h2 : 3 + wtL xs ≤ 40000 := h.w
  have := wtL_mem hy
  omega⟩
theorem Ok0.sm {x : PyData} (h : Ok0 x) : Sm x := by have := h.w; show wt x ≤ 90000; omega
end Fi
/-! Rows of logs that laws draw, and their texts. -/
namespace Fi
open PySem PySem.Spec PyProof.Rows L2
theorem SA.join {sep : Str} (hs : SA sep) : ∀ {ys : List Str}, (∀ y ∈ ys, SA y) → SA (Str.join sep ys)
  | [], _ => by intro c hc; cases hc
  | [y], h => h y (by simp)
  | y :: z :: r, h => by
    show SA (y ++ sep ++ Str.join sep (z :: r))
    exact ((h y (by simp)).app hs).app (SA.join hs fun w hw => h w (List.mem_cons_of_mem _ hw))
theorem SA.tjoin {sep : Str} (hs : SA sep) {ys : List Str} (h : ∀ y ∈ ys, SA y) : SA (Txt.join sep ys) := by
  have e : Txt.join sep ys = Str.join sep ys := PySem.StrLaws.glued_eq_join sep ys
  rw [e]
  exact SA.join hs h
theorem sum_le {α : Type} {f : α → Nat} {n : Nat} : ∀ {ys : List α}, (∀ y ∈ ys, f y ≤ n) → (ys.map f).sum ≤ ys.length * n
  | [], _ => by simp
  | y :: ys, h => by
    have := sum_le (ys := ys) fun z hz => h z (List.mem_cons_of_mem _ hz)
    have := h y (by simp)
    simp only [List.map_cons, List.sum_cons, List.length_cons, Nat.add_mul]
    omega
theorem tjoin_len {sep : Str} {ys : List Str} {n : Nat} (h : ∀ y ∈ ys, y.length ≤ n) : (Txt.join sep ys).length ≤ ys.length * n + ys.length * sep.length := by
  have e : Txt.join sep ys = Str.join sep ys := PySem.StrLaws.glued_eq_join sep ys
  rw [e]
  have := PySem.StrLaws.join_length_le sep ys
  have := sum_le (f := fun x : Str => x.length) h
  omega
/-- an item of a row -/
def itB : PyData → Bool
  | .none => true
  | .int i => decide (i.natAbs ≤ 10000000000)
  | .str z => decide (z.length ≤ 12) && z.cps.toList.all fun c => decide (c < 128)
  | .tuple xs => decide (xs.length ≤ 4) && xs.all fun x => match x with
    | .int i => decide (i.natAbs ≤ 10)
    | _ => false
  | _ => false
structure RowOk (x : PyData) (its : List PyData) : Prop where
  e : x = .tuple its
  l : its.length ≤ 5
  i : its.all itB = true
theorem itB_vd {x : PyData} (h : itB x = true) : Vd (10 ^ 45) x 24 ∧ wt x ≤ 350 := by
  cases x with
  | none => exact ⟨trivial, by decide⟩
  | bool b => cases h
  | int i =>
    have h := of_decide_eq_true (show decide (i.natAbs ≤ 10000000000) = true from h)
    exact ⟨by show i.natAbs ≤ 10 ^ 45; exact Nat.le_trans h (by decide), by show 70 ≤ 350; omega⟩
  | str z =>
    have h : (decide (z.length ≤ 12) && z.cps.toList.all fun c => decide (c < 128)) = true := h
    rw [Bool.and_eq_true, decide_eq_true_eq] at h
    exact ⟨by unfold Vd; exact SA.of h.2, by show 10 * z.length + 2 ≤ 350; omega⟩
  | list xs => cases h
  | dict xs => cases h
  | tuple xs =>
    have h : (decide (xs.length ≤ 4) && xs.all fun x => match x with
      | .int i => decide (i.natAbs ≤ 10)
      | _ => false) = true := h
    rw [Bool.and_eq_true, decide_eq_true_eq] at h
    have hi : ∀ x ∈ xs, ∃ i : Int, x = .int i ∧ i.natAbs ≤ 10 := fun x hx => by
      have := List.all_eq_true.mp h.2 x hx
      cases x with
      | int i => exact ⟨i, rfl, of_decide_eq_true this⟩
      | _ => cases this
    refine ⟨?_, ?_⟩
    · rw [Vd.tupI]
      refine ⟨by omega, fun x hx => ?_⟩
      obtain ⟨i, rfl, hl⟩ := hi x hx
      show i.natAbs ≤ 10 ^ 45
      exact Nat.le_trans hl (by decide)
    · have : wtL xs ≤ xs.length * (70 + 2) := wtL_le fun x hx => by
        obtain ⟨i, rfl, hl⟩ := hi x hx
        exact Nat.le_refl _
      show 3 + wtL xs ≤ 350
      omega
theorem RowOk.ok0 {x : PyData} {its : List PyData} (h : RowOk x its) : Vd (10 ^ 45) x 25 ∧ wt x ≤ 2000 := by
  obtain ⟨rfl, hl, hi⟩ := h
  have hi : ∀ y ∈ its, itB y = true := fun y hy => List.all_eq_true.mp hi y hy
  refine ⟨?_, ?_⟩
  · rw [Vd.tupI]
    exact ⟨by omega, fun y hy => (itB_vd (hi y hy)).1⟩
  · have : wtL its ≤ its.length * (350 + 2) := wtL_le fun y hy => (itB_vd (hi y hy)).2
    show 3 + wtL its ≤ 2000
    omega
theorem int_len11 {i : Int} (h : i.natAbs < 10 ^ 11) : (Str.ofString (toString i)).length ≤ 12 := by
  have h1 := PySem.int_text_length_le10 (k := 11) (by decide) h
  rw [PySem.ofString_length]
  omega
/-- near a value that is small -/
theorem Be.ok {k : Nat} {x y : PyData} (h : Be k x y) (hv : Vd (10 ^ 45) x 25) (hw : wt x ≤ 15000) (hk : k ≤ 25 := by decide) : Ok0 y := ⟨Vd.mono (by decide) y (by omega) (h.v (10 ^ 45) 25 (by decide) hk hv), by have := h.w; omega⟩
/-- what may be shown -/
structure Sh (x : PyData) : Prop where
  v : Vd (10 ^ 55) x 40
  w : wt x ≤ 1000000
theorem Be.sh {k : Nat} {x y : PyData} (h : Be k x y) (hx : Ok0 x) (hk : k ≤ 30 := by decide) : Sh y := ⟨Vd.mono (by decide) y (by omega) (h.v (10 ^ 50) 30 (by decide) hk hx.v), by have := h.w; have := hx.w; omega⟩
theorem Ok0.sh {x : PyData} (hx : Ok0 x) : Sh x := ⟨Vd.mono (by decide) x (by omega) hx.v, by have := hx.w; omega⟩
theorem conB_sh {x : PyData} (h : conB x = true) : Sh x ∧ Sm x := by
  unfold conB at h
  rw [Bool.and_eq_true, decide_eq_true_eq] at h
  exact ⟨⟨Vd.mono (by decide) x (by omega) (gdB_ok x 4 h.1), by omega⟩, by show wt x ≤ 90000; omega⟩
theorem repr_ok {e : Env} {u : U} {x : PyData} (hd : dv e u = some x) (h : Sh x) : biU .repr e [u] = some (.d (.str x.shown)) := by
  have h1 := Vd.show (I := 10 ^ 55) (Nat.lt_of_lt_of_le (show 10 ^ 55 < 2 ^ 200 by decide) (Nat.pow_le_pow_right (by decide) (by decide))) x h.v
  have h2 := Vd.deep x h.v
  have h3 := shown_le (I := 10 ^ 55) (by decide) x h.v
  have h4 := h.w
  show (match dv e u with
    | some d => if (d.showable && decide (d.depth ≤ 1000) && decide (d.shown.length ≤ 10000000)) = true then some (U.d (.str d.shown)) else none
    | none => none) = _
  rw [hd]
  simp only
  rw [if_pos]
  rw [h1, decide_eq_true (show x.depth ≤ 1000 by omega), decide_eq_true (show x.shown.length ≤ 10000000 by omega)]
  rfl
theorem dv_d (e : Env) (x : PyData) : dv e (.d x) = some x := rfl
theorem join_nl {e : Env} {a : Str} {zs : List Str} (h : joinLen a zs ≤ most) : meU .join e (.d (.str a)) [nl (zs.map .str)] = some (.d (.str (Txt.join a zs))) := by
  show ((some (frzL ((zs.map PyData.str).map O.leaf))).bind allS).bind (fun ys => if joinLen a ys ≤ most then some (U.d (.str (Txt.join a ys))) else none) = _
  rw [frzL_leafs]
  show (allS (zs.map .str)).bind _ = _
  rw [allS_map]
  show (if joinLen a zs ≤ most then some (U.d (.str (Txt.join a zs))) else none) = _
  rw [if_pos h]
theorem joinLen_le {a : Str} {zs : List Str} {n m : Nat} (h : ∀ z ∈ zs, z.length ≤ n) (hl : zs.length ≤ m) (ha : a.length = 1) (hm : m * n + m ≤ 100000) : joinLen a zs ≤ most := by
  have h1 := sum_le (f := fun x : Str => x.length) h
  have h2 : zs.length * n ≤ m * n := Nat.mul_le_mul_right n hl
  show (zs.map (·.length)).sum + zs.length * a.length ≤ most
  rw [ha]
  have h3 : (zs.map (fun x : Str => x.length)).sum ≤ zs.length * n := h1
  have h4 : (zs.map (·.length)).sum = (zs.map (fun x : Str => x.length)).sum := rfl
  unfold most
  omega
theorem app_strs {xs : List PyData} {y : PyData} (h : xs.length < most) : appU [.d y] (.lst (xs.map .leaf)) = some (.lst ((xs ++ [y]).map .leaf), .d .none) := by
  have e : (xs ++ [y]).map O.leaf = xs.map .leaf ++ [.leaf y] := by rw [List.map_append]; rfl
  show (if (xs.map O.leaf).length < most then some (O.lst (xs.map O.leaf ++ [.leaf y]), U.d .none) else none) = _
  rw [if_pos (by rw [List.length_map]; exact h), e]
theorem cutS_hi (z : Str) (n : Nat) : (cutS z none (some (n : Int))).length = min n z.length := by
  show (List.toArray _).size = _
  rw [List.size_toArray, show HT.sIx z.length z.length (some (n : Int)) = min n z.length from HT.sIx_nat _ _ n, show HT.sIx z.length 0 none = 0 from rfl, List.length_take, List.length_drop]
  show min (min n z.length - 0) (z.cps.toList.length - 0) = _
  have : z.cps.toList.length = z.length := by unfold Str.length; simp
  omega
theorem cutS_lo (z : Str) (n : Nat) : (cutS z (some (n : Int)) none).length = z.length - n := by
  show (List.toArray _).size = _
  rw [List.size_toArray, show HT.sIx z.length z.length none = z.length from rfl, show HT.sIx z.length 0 (some (n : Int)) = min n z.length from HT.sIx_nat _ _ n, List.length_take, List.length_drop]
  have : z.cps.toList.length = z.length := by unfold Str.length; simp
  omega
theorem repS_len (n : Nat) (s : Str) : (repS n s).length = n * s.length := by
  show (List.toArray _).size = _
  rw [List.size_toArray]
  unfold repL Str.length
  induction n with
  | zero => simp
  | succ n ih => rw [List.replicate_succ, List.flatten_cons, List.length_append, ih, Nat.add_mul]; simp; omega
theorem SA.rep {s : Str} (h : SA s) (n : Nat) : SA (repS n s) := fun c hc => by
  unfold repS repL at hc
  simp only [List.mem_flatten, List.mem_replicate] at hc
  obtain ⟨l, ⟨_, rfl⟩, h2⟩ := hc
  exact h c h2
end Fi
/-! What is shown is of plain characters; own lists changed. -/
namespace Fi
open PySem PySem.Spec PyProof.Rows L2
theorem reprChar_lt : ∀ q, q < 128 → (q = 34 ∨ q = 39) → ∀ c, c < 128 → ∀ d ∈ PySem.Builtin.Str.reprChar q c, d < 128 := by
  have h34 : ∀ c, c < 128 → ∀ d ∈ PySem.Builtin.Str.reprChar 34 c, d < 128 := by decide +kernel
  have h39 : ∀ c, c < 128 → ∀ d ∈ PySem.Builtin.Str.reprChar 39 c, d < 128 := by decide +kernel
  intro q _ hq c hc d hd
  rcases hq with rfl | rfl
  · exact h34 c hc d hd
  · exact h39 c hc d hd
theorem sa_repr {z : Str} (h : SA z) : SA (reprText z) := fun c hc => by
  have hq : reprQuote z = 34 ∨ reprQuote z = 39 := by unfold reprQuote; split <;> simp
  have hq2 : reprQuote z < 128 := by omega
  unfold reprText at hc
  have key : ∀ (l : List Nat) (acc : Array Nat), (∀ c ∈ l, c < 128) → (∀ c ∈ acc.toList, c < 128) → ∀ c ∈ (l.foldl (fun out c => out ++ (PySem.Builtin.Str.reprChar (reprQuote z) c).toArray) acc).toList, c < 128 := by
    intro l
    induction l with
    | nil => intro acc _ ha; exact ha
    | cons d l ih =>
      intro acc hl ha
      refine ih _ (fun c hc => hl c (List.mem_cons_of_mem _ hc)) fun c hc => ?_
      simp only [Array.toList_append] at hc
      rcases List.mem_append.mp hc with q | q
      · exact ha c q
      · exact reprChar_lt _ hq2 hq d (hl d List.mem_cons_self) c q
  rw [Array.toList_push] at hc
  rcases List.mem_append.mp hc with q | q
  · rw [← Array.foldl_toList] at q
    exact key z.cps.toList #[reprQuote z] h (by intro c hc; simp at hc; omega) c q
  · rw [List.mem_singleton.mp q]; exact hq2
theorem SA.text_from : ∀ {ts : List Str} {k : Nat} {acc : Str}, SA acc → (∀ t ∈ ts, SA t) → SA (textFrom k acc ts)
  | [], _, _, h, _ => h
  | t :: ts, k, acc, h, ht => by
    refine SA.text_from (ts := ts) (SA.app (h.app ?_) (ht t (by simp))) fun u hu => ht u (List.mem_cons_of_mem _ hu)
    split <;> exact .of (by decide +kernel)
mutual
theorem sa_shown {I : Nat} : ∀ (d : PyData) {e : Nat}, Vd I d e → SA d.shown
  | .none, _, _ => by show SA ("None" : Str); exact .of (by decide +kernel)
  | .bool b, _, _ => by cases b <;> (show SA (Str.ofString _); exact .of (by decide +kernel))
  | .int i, _, h => int_sa i
  | .str z, _, h => by unfold Vd at h; exact sa_repr h
  | .list ds, e, h => by
    unfold Vd at h
    exact ((SA.of (by decide +kernel)).text_from (sa_shownL ds h.2)).app (.of (by decide +kernel))
  | .tuple ds, e, h => by
    unfold Vd at h
    refine SA.app (SA.app (.of (by decide +kernel)) (SA.join (.of (by decide +kernel)) (sa_shownL ds h.2))) ?_
    split <;> exact .of (by decide +kernel)
  | .dict kvs, e, h => by
    unfold Vd at h
    exact SA.app (SA.app (.of (by decide +kernel)) (SA.join (.of (by decide +kernel)) (sa_shownK kvs h.2))) (.of (by decide +kernel))
theorem sa_shownL {I : Nat} : ∀ (ds : List PyData) {e : Nat}, VdL I ds e → ∀ t ∈ PyData.shownAll ds, SA t
  | [], _, _, _, ht => by cases ht
  | d :: ds, e, h, t, ht => by
    unfold VdL at h
    rcases List.mem_cons.mp (show t ∈ d.shown :: PyData.shownAll ds from ht) with q | q
    · rw [q]; exact sa_shown d h.1
    · exact sa_shownL ds h.2 t q
theorem sa_shownK {I : Nat} : ∀ (ds : List (PyData × PyData)) {e : Nat}, VdK I ds e → ∀ t ∈ PyData.shownKv ds, SA t
  | [], _, _, _, ht => by cases ht
  | (k, d) :: ds, e, h, t, ht => by
    unfold VdK at h
    rcases List.mem_cons.mp (show t ∈ (k.shown ++ ": " ++ d.shown) :: PyData.shownKv ds from ht) with q | q
    · rw [q]; exact ((sa_shown k h.1).app (.of (by decide +kernel))).app (sa_shown d h.2.1)
    · exact sa_shownK ds h.2.2 t q
end
/-- the text of a shown value is shown -/
theorem Sh.shown {x : PyData} (h : Sh x) (hw : Sm x) : Vd (10 ^ 55) (.str x.shown) 39 ∧ wt (.str x.shown) ≤ 900002 := by
  have h3 := shown_le (I := 10 ^ 55) (by decide) x h.v
  have hw : wt x ≤ 90000 := hw
  exact ⟨by unfold Vd; exact sa_shown x h.v, by show 10 * x.shown.length + 2 ≤ 900002; omega⟩
theorem kCall_ok {r : Cr} {X : Xn → List U → Prop} {v : U} (h : kCall r (fun u _ => u = v) fun _ _ => False) : ∃ os, r = .ok v os := by
  unfold kCall at h
  cases r with
  | ok u os => exact ⟨os, by rw [show u = v from h]⟩
  | ex x os => exact h.elim
  | no => exact h.elim
theorem nlen_of {e : Env} {xs : List PyData} {i : Nat} (h : ownAt e i = some (.lst (xs.map .leaf))) : biU .len e [.b i] = some (.d (.int xs.length)) := by
  refine len_of ?_
  show (match ownAt e i with | some (.lst xs) => flats xs | _ => none) = _
  rw [h]
  exact flats_leafs xs
theorem ixN_nat {n k : Nat} (h : k < n) : ixN n (k : Int) = some k := by
  unfold ixN
  rw [if_pos (by omega), if_pos (by omega), Int.toNat_natCast]
theorem st_l {zs : List PyData} {n : Nat} {y : PyData} (h : n < zs.length) : stU [.d (.int n), .d y] (.lst (zs.map .leaf)) = some (.lst ((zs.set n y).map .leaf), .d .none) := by
  show ((ixN (zs.map O.leaf).length (n : Int)).map fun j => (O.lst ((zs.map O.leaf).set j (.leaf y)), U.d .none)) = _
  rw [ixN_nat (by rw [List.length_map]; exact h), List.map_set]; rfl
theorem ins_l {zs : List PyData} {n : Nat} {y : PyData} (h : n ≤ zs.length) (hl : zs.length < most) : insU [.d (.int n), .d y] (.lst (zs.map .leaf)) = some (.lst ((zs.take n ++ y :: zs.drop n).map .leaf), .d .none) := by
  show (if (zs.map O.leaf).length < most ∧ 0 ≤ (n : Int) ∧ (n : Int) ≤ (zs.map O.leaf).length then some (O.lst ((zs.map O.leaf).take (n : Int).toNat ++ .leaf y :: (zs.map O.leaf).drop (n : Int).toNat), U.d .none) else none) = _
  rw [if_pos (by rw [List.length_map]; omega), Int.toNat_natCast, List.map_append, List.map_cons, List.map_take, List.map_drop]
theorem popAt_l {zs : List PyData} {n : Nat} (h : n < zs.length) (hl : zs.length ≤ most) : popAtU [.d (.int n)] (.lst (zs.map .leaf)) = some (.lst ((zs.eraseIdx n).map .leaf), .d (zs[n]'h)) := by
  show (if (zs.map O.leaf).length ≤ most then (ixN (zs.map O.leaf).length (n : Int)).bind fun j => ((zs.map O.leaf)[j]?).map fun y => (O.lst ((zs.map O.leaf).eraseIdx j), y.toU) else none) = _
  rw [if_pos (by rw [List.length_map]; exact hl), ixN_nat (by rw [List.length_map]; exact h)]
  show ((zs.map O.leaf)[n]?).map _ = _
  rw [List.getElem?_map, List.getElem?_eq_getElem h]
  show some (O.lst ((zs.map O.leaf).eraseIdx n), _) = _
  have e : ∀ (l : List PyData) (n : Nat), (l.map O.leaf).eraseIdx n = (l.eraseIdx n).map O.leaf := by
    intro l
    induction l with
    | nil => intro n; rfl
    | cons a l ih =>
      intro n
      cases n with
      | zero => rfl
      | succ n => show O.leaf a :: (l.map O.leaf).eraseIdx n = _; rw [ih n]; rfl
  rw [e]; rfl
theorem sub_l {e : Env} {i n : Nat} {zs : List PyData} (h1 : ownAt e i = some (.lst (zs.map .leaf))) (h : n < zs.length) : subU e (.b i) (.d (.int n)) = some (.d (zs[n]'h)) := sub_b h1 (by
  rw [Fi.atI_nat (y := .leaf (zs[n]'h)) (by rw [List.getElem?_map, List.getElem?_eq_getElem h]; rfl)])
end Fi
/-! The law's defs in the core. -/
namespace Lw
open PySem PySem.Spec PyProof.Rows L2 Fi
abbrev prog : Program := PySem.Challenge.pw_allshelves_k47_any_values_as_rows_and_de
def top (i : Nat) : Stmt := prog.main.body.getD i (.Pass ⟨0, 0, 0, 0⟩)
def b0 : CSs := (.cons (.ret (.an (.isi (.pv 0) ["int"]) (.nt (.isi (.pv 0) ["bool"])))) .nil)
abbrev c0 : Fd := ⟨1, 1, [], b0⟩ -- is_integer
def b1 : CSs := (.cons (.ret (.an (.call 0 (.cons (.var 0) .nil)) (.chn .le .le (.pv 1) (.pv 0) (.pv 2)))) .nil)
abbrev c1 : Fd := ⟨3, 3, [], b1⟩ -- is_integer_in
def b2 : CSs := (.cons (.ret (.an (.call 0 (.cons (.var 0) .nil)) (.cmp .ge (.pv 0) (.cst (.int (0)))))) .nil)
abbrev c2 : Fd := ⟨1, 1, [], b2⟩ -- is_count
def b3 : CSs := (.cons (.ite (.orr (.nt (.isi (.pv 0) ["str"])) (.nt (.chn .le .le (.cst (.int (1))) (.bi .len (.cons (.pv 0) .nil)) (.cst (.int (10)))))) (.cons (.ret (.cst (.bool false))) .nil) .nil) (.cons (.ret (.bi .all (.cons (.lc (.cmp .in_ (.pv 2) (.cst (.str "abcdefghijklmnopqrstuvwxyz"))) (.name 2) (.seq (.var 0)) .nil [1, 2]) .nil))) .nil))
abbrev c3 : Fd := ⟨1, 3, [], b3⟩ -- is_word
def b4 : CSs := (.cons (.ret (.an (.isi (.pv 0) ["tuple"]) (.cmp .eq (.bi .len (.cons (.pv 0) .nil)) (.pv 1)))) .nil)
abbrev c4 : Fd := ⟨2, 2, [], b4⟩ -- is_tuple_of
def b5 : CSs := (.cons (.ite (.orr (.nt (.isi (.pv 0) ["tuple"])) (.cmp .lt (.bi .len (.cons (.pv 0) .nil)) (.cst (.int (2))))) (.cons (.ret (.cst (.bool false))) .nil) .nil) (.cons (.ite (.orr (.nt (.isi (.sub (.pv 0) (.cst (.int (0)))) ["str"])) (.inc true [("begin", .tuple [.str "role", .str "houses"]), ("read", .tuple [.str "word"]), ("write", .tuple [.str "word", .str "worth", .str "worth"]), ("undo", .tuple [.str "word", .str "worth"]), ("mark", .tuple [.str "word"]), ("end", .tuple [.str "end"])] (.sub (.pv 0) (.cst (.int (0)))))) (.cons (.ret (.cst (.bool false))) .nil) .nil) (.cons (.set 1 (.ixc [("begin", .tuple [.str "role", .str "houses"]), ("read", .tuple [.str "word"]), ("write", .tuple [.str "word", .str "worth", .str "worth"]), ("undo", .tuple [.str "word", .str "worth"]), ("mark", .tuple [.str "word"]), ("end", .tuple [.str "end"])] (.sub (.pv 0) (.cst (.int (0)))))) (.cons (.ite (.orr (.cmp .ne (.bi .len (.cons (.pv 0) .nil)) (.bin .add (.cst (.int (2))) (.bi .len (.cons (.pv 1) .nil)))) (.nt (.call 2 (.cons (.sub (.pv 0) (.cst (.int (1)))) .nil)))) (.cons (.ret (.cst (.bool false))) .nil) .nil) (.cons (.ret (.bi .all (.cons (.lc (.call 7 (.cons (.var 3) (.cons (.var 4) .nil))) (.tup [(.name 3), (.name 4)]) (.zip (.var 1) (.slc (.pv 0) (.some (.cst (.int (2)))) .none)) .nil [2, 3, 4]) .nil))) .nil)))))
abbrev c5 : Fd := ⟨1, 5, [], b5⟩ -- has_row_form
def b6 : CSs := (.cons (.ret (.orr (.cmp .isn (.pv 0) (.cst (.none))) (.call 0 (.cons (.var 0) .nil)))) .nil)
abbrev c6 : Fd := ⟨1, 1, [], b6⟩ -- has_worth_form
def b7 : CSs := (.cons (.ite (.cmp .eq (.pv 0) (.cst (.str "role"))) (.cons (.ret (.cmp .in_ (.pv 1) (.cst (.tuple [.str "leader", .str "member"])))) .nil) .nil) (.cons (.ite (.cmp .eq (.pv 0) (.cst (.str "end"))) (.cons (.ret (.cmp .in_ (.pv 1) (.cst (.tuple [.str "kept", .str "dropped"])))) .nil) .nil) (.cons (.ite (.cmp .eq (.pv 0) (.cst (.str "houses"))) (.cons (.ret (.call 8 (.cons (.var 1) .nil))) .nil) .nil) (.cons (.ret (.ife (.cmp .eq (.pv 0) (.cst (.str "word"))) (.call 3 (.cons (.var 1) .nil)) (.call 6 (.cons (.var 1) .nil)))) .nil))))
abbrev c7 : Fd := ⟨2, 2, [], b7⟩ -- has_part_form
def b8 : CSs := (.cons (.ite (.orr (.nt (.isi (.pv 0) ["tuple"])) (.nt (.chn .le .le (.cst (.int (2))) (.bi .len (.cons (.pv 0) .nil)) (.cst (.int (4)))))) (.cons (.ret (.cst (.bool false))) .nil) .nil) (.cons (.ite (.nt (.bi .all (.cons (.lc (.call 1 (.cons (.var 2) (.cons (.cst (.int (0))) (.cons (.bin .sub (.cst (.int (4))) (.cst (.int (1)))) .nil)))) (.name 2) (.seq (.var 0)) .nil [1, 2]) .nil))) (.cons (.ret (.cst (.bool false))) .nil) .nil) (.cons (.ret (.cmp .eq (.bi .lenset (.cons (.pv 0) .nil)) (.bi .len (.cons (.pv 0) .nil)))) .nil)))
abbrev c8 : Fd := ⟨1, 3, [], b8⟩ -- has_houses_form
def b9 : CSs := (.cons (.ret (.call 5 (.cons (.var 0) .nil))) .nil)
abbrev c9 : Fd := ⟨1, 1, [], b9⟩ -- is_log_row
def b10 : CSs := (.cons (.ite (.nt (.call 4 (.cons (.var 0) (.cons (.cst (.int (2))) .nil)))) (.cons (.ret (.cst (.bool false))) .nil) .nil) (.cons (.tup (.tup [(.name 1), (.name 2)]) (.var 0)) (.cons (.ite (.orr (.nt (.isi (.pv 1) ["tuple"])) (.nt (.bi .all (.cons (.lc (.call 11 (.cons (.var 4) .nil)) (.name 4) (.seq (.var 1)) .nil [3, 4]) .nil)))) (.cons (.ret (.cst (.bool false))) .nil) .nil) (.cons (.ret (.an (.call 1 (.cons (.var 2) (.cons (.cst (.int (0))) (.cons (.bi .len (.cons (.pv 1) .nil)) .nil)))) (.cmp .nin (.cst (.str "")) (.slc (.pv 1) .none (.some (.pv 2)))))) .nil))))
abbrev c10 : Fd := ⟨1, 5, [], b10⟩ -- is_device
def b11 : CSs := (.cons (.ret (.an (.isi (.pv 0) ["str"]) (.cmp .in_ (.bi .len (.cons (.pv 0) .nil)) (.tup (.cons (.cst (.int (0))) (.cons (.cst (.int (12))) .nil)))))) .nil)
abbrev c11 : Fd := ⟨1, 1, [], b11⟩ -- is_sector
def b12 : CSs := (.cons (.set 1 (.cst (.int (13752852)))) (.cons (.loop (.name 2) (.seq (.slc (.pv 0) .none (.some (.cst (.int (63)))))) (.cons (.set 1 (.bin .mod (.bi .int (.cons (.bin .add (.bin .add (.bin .mul (.soft 1) (.cst (.int (69621)))) (.bin .mod (.bi .int (.cons (.pv 2) .nil)) (.cst (.int (2147483629))))) (.cst (.int (153)))) .nil)) (.cst (.int (2147483587))))) .nil)) (.cons (.ret (.dic (.cons (.cst (.str "cells")) (.cons (.rev (.bi .list (.cons (.slc (.pv 0) .none (.some (.cst (.int (63))))) .nil))) (.cons (.cst (.str "mixed")) (.cons (.var 1) (.cons (.cst (.str "draws")) (.cons (.cst (.int (0))) .nil)))))))) .nil)))
abbrev c12 : Fd := ⟨1, 3, [], b12⟩ -- _law_deck
def b13 : CSs := (.cons (.st ⟨0, .nil, (.cst (.str "draws"))⟩ (.bin .add (.sub (.pv 0) (.cst (.str "draws"))) (.cst (.int (1))))) (.cons (.set 2 (.bin .add (.sub (.pv 0) (.cst (.str "mixed"))) (.bin .mul (.cst (.int (61473))) (.sub (.pv 0) (.cst (.str "draws")))))) (.cons (.ite (.cmpP true 0 (.cons (.cst (.str "cells")) .nil) (.lst .nil)) (.cons (.set 3 (.mu .pop 0 (.cons (.cst (.str "cells")) .nil) .nil)) (.cons (.ite (.cmp .ge (.pv 3) (.bin .pow (.cst (.int (10))) (.cst (.int (18))))) (.cons (.ex (.mu .append 0 (.cons (.cst (.str "cells")) .nil) (.cons (.bin .fdiv (.soft 3) (.bi .max2 (.cons (.cst (.int (2))) (.cons (.pv 1) .nil)))) .nil))) (.cons (.ret (.bin .mod (.bi .int (.cons (.pv 3) .nil)) (.soft 1))) .nil)) .nil) (.cons (.set 2 (.bin .add (.soft 2) (.bin .mod (.bi .int (.cons (.pv 3) .nil)) (.cst (.int (2147483629)))))) .nil))) .nil) (.cons (.set 2 (.bin .mod (.bi .int (.cons (.bin .add (.bin .mul (.soft 2) (.cst (.int (39373)))) (.cst (.int (153)))) .nil)) (.cst (.int (2147483647))))) (.cons (.set 2 (.bin .mod (.bi .int (.cons (.bin .add (.bin .add (.bin .mul (.soft 2) (.soft 2)) (.bin .mul (.cst (.int (52713))) (.sub (.pv 0) (.cst (.str "draws"))))) (.cst (.int (319)))) .nil)) (.cst (.int (2147483587))))) (.cons (.set 2 (.bin .mod (.bi .int (.cons (.bin .mul (.soft 2) (.cst (.int (40692)))) .nil)) (.cst (.int (2147483563))))) (.cons (.ret (.bin .mod (.bi .int (.cons (.bin .fdiv (.soft 2) (.cst (.int (64)))) .nil)) (.soft 1))) .nil)))))))
abbrev c13 : Fd := ⟨2, 4, [0], b13⟩ -- _law_draw
def b14 : CSs := (.cons (.ret (.sub (.pv 1) (.call 13 (.cons (.lt 0) (.cons (.bi .len (.cons (.pv 1) .nil)) .nil))))) .nil)
abbrev c14 : Fd := ⟨2, 2, [0], b14⟩ -- _law_pick
def b15 : CSs := (.cons (.ret (.an (.isi (.pv 0) ["int"]) (.nt (.isi (.pv 0) ["bool"])))) .nil)
abbrev c15 : Fd := ⟨1, 1, [], b15⟩ -- _law_is_integer
def b16 : CSs := (.cons (.ret (.an (.call 15 (.cons (.var 0) .nil)) (.cmp .ge (.pv 0) (.cst (.int (0)))))) .nil)
abbrev c16 : Fd := ⟨1, 1, [], b16⟩ -- _law_is_number
def b17 : CSs := (.cons (.ite (.orr (.nt (.isi (.pv 0) ["str"])) (.nt (.chn .lt .lt (.cst (.int (0))) (.bi .len (.cons (.pv 0) .nil)) (.cst (.int (11)))))) (.cons (.ret (.cst (.bool false))) .nil) .nil) (.cons (.ret (.cmp .eq (.lc (.var 2) (.name 2) (.seq (.var 0)) (.cons (.cmp .nin (.pv 2) (.cst (.str "abcdefghijklmnopqrstuvwxyz"))) .nil) [1, 2]) (.lst .nil))) .nil))
abbrev c17 : Fd := ⟨1, 3, [], b17⟩ -- _law_is_word
def b18 : CSs := (.cons (.ret (.orr (.cmp .isn (.pv 0) (.cst (.none))) (.call 15 (.cons (.var 0) .nil)))) .nil)
abbrev c18 : Fd := ⟨1, 1, [], b18⟩ -- _law_is_worth
def b19 : CSs := (.cons (.ite (.orr (.nt (.isi (.pv 0) ["tuple"])) (.orr (.nt (.chn .lt .lt (.cst (.int (1))) (.bi .len (.cons (.pv 0) .nil)) (.cst (.int (5))))) (.cmp .ne (.lc (.cst (.int (1))) (.name 2) (.seq (.var 0)) (.cons (.nt (.call 15 (.cons (.var 2) .nil))) .nil) [1, 2]) (.lst .nil)))) (.cons (.ret (.cst (.bool false))) .nil) .nil) (.cons (.ret (.an (.cmp .eq (.lc (.cst (.int (1))) (.name 2) (.seq (.var 0)) (.cons (.nt (.chn .le .lt (.cst (.int (0))) (.pv 2) (.cst (.int (4))))) .nil) [1, 2]) (.lst .nil)) (.cmp .eq (.bi .lenset (.cons (.pv 0) .nil)) (.bi .len (.cons (.pv 0) .nil))))) .nil))
abbrev c19 : Fd := ⟨1, 3, [], b19⟩ -- _law_are_houses
def b20 : CSs := (.cons (.ite (.orr (.nt (.isi (.pv 0) ["tuple"])) (.orr (.cmp .lt (.bi .len (.cons (.pv 0) .nil)) (.cst (.int (3)))) (.orr (.nt (.isi (.sub (.pv 0) (.cst (.int (0)))) ["str"])) (.nt (.call 16 (.cons (.sub (.pv 0) (.cst (.int (1)))) .nil)))))) (.cons (.ret (.cst (.bool false))) .nil) .nil) (.cons (.par [1, 2] (.cons (.sub (.pv 0) (.cst (.int (0)))) (.cons (.slc (.pv 0) (.some (.cst (.int (2)))) .none) .nil))) (.cons (.set 3 (.dic (.cons (.cst (.str "begin")) (.cons (.cst (.int (2))) (.cons (.cst (.str "read")) (.cons (.cst (.int (1))) (.cons (.cst (.str "write")) (.cons (.cst (.int (3))) (.cons (.cst (.str "undo")) (.cons (.cst (.int (2))) (.cons (.cst (.str "mark")) (.cons (.cst (.int (1))) (.cons (.cst (.str "end")) (.cons (.cst (.int (1))) .nil)))))))))))))) (.cons (.ite (.orr (.cmp .ne (.me .get (.pv 3) (.cons (.pv 1) (.cons (.cst (.int (0))) .nil))) (.bi .len (.cons (.pv 2) .nil))) (.nt (.isi (.sub (.pv 2) (.cst (.int (0)))) ["str"]))) (.cons (.ret (.cst (.bool false))) .nil) .nil) (.cons (.ite (.cmp .eq (.pv 1) (.cst (.str "begin"))) (.cons (.ret (.an (.cmp .in_ (.sub (.pv 2) (.cst (.int (0)))) (.tup (.cons (.cst (.str "leader")) (.cons (.cst (.str "member")) .nil)))) (.call 19 (.cons (.sub (.pv 2) (.cst (.int (1)))) .nil)))) .nil) .nil) (.cons (.ite (.cmp .eq (.pv 1) (.cst (.str "end"))) (.cons (.ret (.cmp .in_ (.sub (.pv 2) (.cst (.int (0)))) (.tup (.cons (.cst (.str "kept")) (.cons (.cst (.str "dropped")) .nil))))) .nil) .nil) (.cons (.ret (.an (.call 17 (.cons (.sub (.pv 2) (.cst (.int (0)))) .nil)) (.cmp .eq (.lc (.cst (.int (1))) (.name 5) (.seq (.slc (.pv 2) (.some (.cst (.int (1)))) .none)) (.cons (.nt (.call 18 (.cons (.var 5) .nil))) .nil) [4, 5]) (.lst .nil)))) .nil)))))))
abbrev c20 : Fd := ⟨1, 6, [], b20⟩ -- _law_is_row
def b21 : CSs := (.cons (.ite (.cmp .isn (.pv 0) (.cst (.none))) (.cons (.ret (.cst (.str "-"))) .nil) .nil) (.cons (.ret (.ife (.isi (.pv 0) ["tuple"]) (.me .join (.cst (.str ",")) (.cons (.lc (.bi .str (.cons (.pv 2) .nil)) (.name 2) (.seq (.var 0)) .nil [1, 2]) .nil)) (.bi .str (.cons (.pv 0) .nil)))) .nil))
abbrev c21 : Fd := ⟨1, 3, [], b21⟩ -- _law_item_text
def b22 : CSs := (.cons (.ret (.me .join (.cst (.str " ")) (.cons (.lc (.call 21 (.cons (.var 2) .nil)) (.name 2) (.seq (.var 0)) .nil [1, 2]) .nil))) .nil)
abbrev c22 : Fd := ⟨1, 3, [], b22⟩ -- _law_row_text
def b23 : CSs := (.cons (.par [1, 2] (.cons (.call 22 (.cons (.var 0) .nil)) (.cons (.lst .nil) .nil))) (.cons (.whl (.cmp .gt (.bi .len (.cons (.pv 1) .nil)) (.cst (.int (11)))) (.cons (.ex (.mu .append 2 .nil (.cons (.bin .add (.cst (.str "+")) (.slc (.pv 1) .none (.some (.cst (.int (11)))))) .nil))) (.cons (.set 1 (.slc (.pv 1) (.some (.cst (.int (11)))) .none)) .nil))) (.cons (.ex (.mu .append 2 .nil (.cons (.bin .add (.bin .add (.cst (.str ".")) (.soft 1)) (.bin .mul (.cst (.str " ")) (.bin .sub (.cst (.int (11))) (.bi .len (.cons (.pv 1) .nil))))) .nil))) (.cons (.ret (.bi .tuple (.cons (.pv 2) .nil))) .nil))))
abbrev c23 : Fd := ⟨1, 3, [], b23⟩ -- _law_sectors
def b24 : CSs := (.cons (.ite (.orr (.nt (.isi (.pv 0) ["tuple"])) (.orr (.cmp .ne (.bi .len (.cons (.pv 0) .nil)) (.cst (.int (2)))) (.orr (.nt (.isi (.sub (.pv 0) (.cst (.int (0)))) ["tuple"])) (.nt (.call 16 (.cons (.sub (.pv 0) (.cst (.int (1)))) .nil)))))) (.cons (.ret (.cst (.bool false))) .nil) .nil) (.cons (.ite (.orr (.cmp .ne (.lc (.cst (.int (1))) (.name 2) (.seq (.sub (.pv 0) (.cst (.int (0))))) (.cons (.orr (.nt (.isi (.pv 2) ["str"])) (.cmp .nin (.bi .len (.cons (.pv 2) .nil)) (.tup (.cons (.cst (.int (0))) (.cons (.cst (.int (12))) .nil))))) .nil) [1, 2]) (.lst .nil)) (.cmp .gt (.sub (.pv 0) (.cst (.int (1)))) (.bi .len (.cons (.sub (.pv 0) (.cst (.int (0)))) .nil)))) (.cons (.ret (.cst (.bool false))) .nil) .nil) (.cons (.ret (.cmp .nin (.cst (.str "")) (.slc (.sub (.pv 0) (.cst (.int (0)))) .none (.some (.sub (.pv 0) (.cst (.int (1)))))))) .nil)))
abbrev c24 : Fd := ⟨1, 3, [], b24⟩ -- _law_is_device
def b25 : CSs := (.cons (.ret (.call 14 (.cons (.lt 0) (.cons (.lst (.cons (.cst (.str "a")) (.cons (.cst (.str "b")) (.cons (.cst (.str "ab")) (.cons (.cst (.str "key")) (.cons (.cst (.str "zz")) (.cons (.cst (.str "abcdefghij")) (.cons (.cst (.str "q")) (.cons (.cst (.str "z")) .nil))))))))) .nil)))) .nil)
abbrev c25 : Fd := ⟨1, 1, [0], b25⟩ -- _law_key
def b26 : CSs := (.cons (.ret (.call 14 (.cons (.lt 0) (.cons (.lst (.cons (.cst (.int (0))) (.cons (.cst (.int (1))) (.cons (.neg (.cst (.int (1)))) (.cons (.cst (.none)) (.cons (.cst (.int (7))) (.cons (.neg (.cst (.int (20)))) (.cons (.cst (.int (999999999))) (.cons (.neg (.cst (.int (999999999)))) (.cons (.call 13 (.cons (.lt 0) (.cons (.cst (.int (1000))) .nil))) .nil)))))))))) .nil)))) .nil)
abbrev c26 : Fd := ⟨1, 1, [0], b26⟩ -- _law_worth
def b27 : CSs := (.cons (.ret (.call 14 (.cons (.lt 0) (.cons (.lst (.cons (.cst (.int (0))) (.cons (.cst (.int (1))) (.cons (.cst (.int (2))) (.cons (.cst (.int (3))) (.cons (.cst (.int (10))) (.cons (.cst (.int (123456789))) (.cons (.call 13 (.cons (.lt 0) (.cons (.cst (.int (100))) .nil))) .nil)))))))) .nil)))) .nil)
abbrev c27 : Fd := ⟨1, 1, [0], b27⟩ -- _law_deal
def b28 : CSs := (.cons (.par [1, 2] (.cons (.call 13 (.cons (.lt 0) (.cons (.cst (.int (8))) .nil))) (.cons (.call 27 (.cons (.lt 0) .nil)) .nil))) (.cons (.ite (.cmp .eq (.pv 1) (.cst (.int (0)))) (.cons (.set 3 (.lst (.cons (.tup (.cons (.cst (.int (0))) (.cons (.cst (.int (1))) .nil))) (.cons (.tup (.cons (.cst (.int (1))) (.cons (.cst (.int (0))) (.cons (.cst (.int (3))) .nil)))) (.cons (.tup (.cons (.cst (.int (3))) (.cons (.cst (.int (2))) (.cons (.cst (.int (1))) (.cons (.cst (.int (0))) .nil))))) (.cons (.tup (.cons (.cst (.int (2))) (.cons (.cst (.int (0))) .nil))) (.cons (.tup (.cons (.cst (.int (0))) (.cons (.cst (.int (1))) (.cons (.cst (.int (2))) (.cons (.cst (.int (3))) .nil))))) .nil))))))) (.cons (.ret (.tup (.cons (.cst (.str "begin")) (.cons (.var 2) (.cons (.call 14 (.cons (.lt 0) (.cons (.lst (.cons (.cst (.str "leader")) (.cons (.cst (.str "member")) .nil))) .nil))) (.cons (.call 14 (.cons (.lt 0) (.cons (.var 3) .nil))) .nil)))))) .nil)) .nil) (.cons (.ite (.cmp .eq (.pv 1) (.cst (.int (1)))) (.cons (.ret (.tup (.cons (.cst (.str "read")) (.cons (.var 2) (.cons (.call 25 (.cons (.lt 0) .nil)) .nil))))) .nil) .nil) (.cons (.ite (.cmp .lt (.pv 1) (.cst (.int (4)))) (.cons (.ret (.tup (.cons (.cst (.str "write")) (.cons (.var 2) (.cons (.call 25 (.cons (.lt 0) .nil)) (.cons (.call 26 (.cons (.lt 0) .nil)) (.cons (.call 26 (.cons (.lt 0) .nil)) .nil))))))) .nil) .nil) (.cons (.ite (.cmp .eq (.pv 1) (.cst (.int (4)))) (.cons (.ret (.tup (.cons (.cst (.str "undo")) (.cons (.var 2) (.cons (.call 25 (.cons (.lt 0) .nil)) (.cons (.call 26 (.cons (.lt 0) .nil)) .nil)))))) .nil) .nil) (.cons (.ite (.cmp .lt (.pv 1) (.cst (.int (7)))) (.cons (.ret (.tup (.cons (.cst (.str "mark")) (.cons (.var 2) (.cons (.call 14 (.cons (.lt 0) (.cons (.lst (.cons (.cst (.str "kept")) (.cons (.cst (.str "yes")) (.cons (.cst (.str "ready")) (.cons (.cst (.str "abcdefghij")) (.cons (.cst (.str "m")) .nil)))))) .nil))) .nil))))) .nil) .nil) (.cons (.ret (.tup (.cons (.cst (.str "end")) (.cons (.var 2) (.cons (.call 14 (.cons (.lt 0) (.cons (.lst (.cons (.cst (.str "kept")) (.cons (.cst (.str "dropped")) .nil))) .nil))) .nil))))) .nil)))))))
abbrev c28 : Fd := ⟨1, 4, [0], b28⟩ -- _law_row
def b29 : CSs := (.cons (.ret (.lc (.call 28 (.cons (.lt 0) .nil)) (.name 3) (.rng (.cons (.call 13 (.cons (.lt 0) (.cons (.bin .add (.soft 1) (.cst (.int (1)))) .nil))) .nil)) .nil [2, 3])) .nil)
abbrev c29 : Fd := ⟨2, 4, [0], b29⟩ -- _law_rows
def b30 : CSs := (.cons (.set 1 (.tup .nil)) (.cons (.loop (.name 2) (.seq (.var 0)) (.cons (.set 1 (.bin .add (.soft 1) (.call 23 (.cons (.var 2) .nil)))) .nil)) (.cons (.ret (.mv 1)) .nil)))
abbrev c30 : Fd := ⟨1, 3, [], b30⟩ -- _law_all_sectors
def b31 : CSs := (.cons (.set 1 (.lst (.cons (.cst (.none)) (.cons (.cst (.bool true)) (.cons (.cst (.bool false)) (.cons (.cst (.int (0))) (.cons (.cst (.int (1))) (.cons (.neg (.cst (.int (1)))) (.cons (.bin .pow (.cst (.int (10))) (.cst (.int (39)))) (.cons (.cst (.str "")) (.cons (.cst (.str "a")) (.cons (.cst (.str "kept")) (.cons (.cst (.str "read")) (.cons (.tup .nil) (.cons (.lst .nil) (.cons (.dic .nil) (.cons (.tup (.cons (.cst (.int (0))) .nil)) (.cons (.tup (.cons (.tup (.cons (.cst (.int (0))) .nil)) .nil)) (.cons (.lst (.cons (.cst (.int (0))) (.cons (.cst (.int (1))) .nil))) (.cons (.dic (.cons (.cst (.str "a")) (.cons (.tup (.cons (.cst (.int (1))) .nil)) .nil))) (.cons (.tup (.cons (.cst (.none)) .nil)) .nil))))))))))))))))))))) (.cons (.ret (.call 14 (.cons (.lt 0) (.cons (.bin .add (.soft 1) (.lst (.cons (.tup (.cons (.tup .nil) (.cons (.cst (.int (0))) .nil))) (.cons (.tup (.cons (.tup .nil) (.cons (.tup .nil) .nil))) (.cons (.tup (.cons (.cst (.str "end")) (.cons (.cst (.int (0))) (.cons (.cst (.str "kept")) .nil)))) (.cons (.tup (.cons (.cst (.str "mark")) (.cons (.cst (.int (0))) .nil))) (.cons (.cst (.str "x y")) (.cons (.tup (.cons (.cst (.int (1))) (.cons (.cst (.int (2))) .nil))) (.cons (.tup (.cons (.cst (.str "a")) (.cons (.cst (.int (1))) (.cons (.cst (.str "read")) .nil)))) (.cons (.cst (.str "ab\n")) (.cons (.tup (.cons (.cst (.bool true)) .nil)) .nil))))))))))) .nil)))) .nil))
abbrev c31 : Fd := ⟨1, 2, [0], b31⟩ -- _law_any
def b32 : CSs := (.cons (.ite (.call 15 (.cons (.var 1) .nil)) (.cons (.ret (.call 14 (.cons (.lt 0) (.cons (.lst (.cons (.bin .add (.soft 1) (.cst (.int (1)))) (.cons (.bin .sub (.soft 1) (.cst (.int (1)))) (.cons (.bin .sub (.neg (.pv 1)) (.cst (.int (1)))) (.cons (.cmp .eq (.pv 1) (.cst (.int (1)))) (.cons (.bi .str (.cons (.pv 1) .nil)) (.cons (.tup (.cons (.var 1) .nil)) (.cons (.cst (.none)) (.cons (.cst (.int (0))) (.cons (.cst (.int (4))) .nil)))))))))) .nil)))) .nil) .nil) (.cons (.ite (.isi (.pv 1) ["str"]) (.cons (.ret (.call 14 (.cons (.lt 0) (.cons (.lst (.cons (.bin .add (.soft 1) (.cst (.str "a"))) (.cons (.slc (.pv 1) (.some (.cst (.int (1)))) .none) (.cons (.bin .add (.soft 1) (.cst (.str " "))) (.cons (.me .upper (.pv 1) .nil) (.cons (.cst (.str "read")) (.cons (.cst (.str "write")) (.cons (.cst (.str "kept")) (.cons (.cst (.str "")) (.cons (.bin .mul (.cst (.str "a")) (.cst (.int (11)))) (.cons (.tup (.cons (.var 1) .nil)) (.cons (.cst (.int (0))) (.cons (.cst (.str "a1")) .nil))))))))))))) .nil)))) .nil) .nil) (.cons (.ite (.an (.isi (.pv 1) ["tuple"]) (.cmp .ne (.pv 1) (.tup .nil))) (.cons (.set 2 (.call 13 (.cons (.lt 0) (.cons (.bi .len (.cons (.pv 1) .nil)) .nil)))) (.cons (.set 3 (.lst (.cons (.bi .list (.cons (.pv 1) .nil)) (.cons (.bin .add (.slc (.pv 1) .none (.some (.pv 2))) (.slc (.pv 1) (.some (.bin .add (.soft 2) (.cst (.int (1))))) .none)) (.cons (.bin .add (.soft 1) (.slc (.pv 1) (.some (.pv 2)) (.some (.bin .add (.soft 2) (.cst (.int (1))))))) (.cons (.rev (.pv 1)) (.cons (.tup (.cons (.var 1) .nil)) (.cons (.bin .add (.soft 1) (.tup (.cons (.cst (.int (0))) .nil))) (.cons (.tup .nil) .nil))))))))) (.cons (.ret (.call 14 (.cons (.lt 0) (.cons (.bin .add (.soft 3) (.lst (.cons (.bin .add (.bin .add (.slc (.pv 1) .none (.some (.pv 2))) (.slc (.pv 1) (.some (.pv 2)) (.some (.bin .add (.soft 2) (.cst (.int (1))))))) (.slc (.pv 1) (.some (.pv 2)) .none)) (.cons (.sub (.pv 1) (.pv 2)) (.cons (.cst (.none)) .nil))))) .nil)))) .nil))) .nil) (.cons (.ret (.call 31 (.cons (.lt 0) .nil))) .nil))))
abbrev c32 : Fd := ⟨2, 4, [0], b32⟩ -- _law_turned_part
def b33 : CSs := (.cons (.ite (.an (.isi (.pv 1) ["tuple"]) (.an (.cmp .ne (.pv 1) (.tup .nil)) (.an (.cmp .gt (.pv 2) (.cst (.int (0)))) (.cmp .gt (.call 13 (.cons (.lt 0) (.cons (.cst (.int (8))) .nil))) (.cst (.int (0))))))) (.cons (.set 3 (.call 13 (.cons (.lt 0) (.cons (.bi .len (.cons (.pv 1) .nil)) .nil)))) (.cons (.ret (.bin .add (.bin .add (.slc (.pv 1) .none (.some (.pv 3))) (.tup (.cons (.call 33 (.cons (.lt 0) (.cons (.sub (.pv 1) (.pv 3)) (.cons (.bin .sub (.soft 2) (.cst (.int (1)))) .nil)))) .nil))) (.slc (.pv 1) (.some (.bin .add (.soft 3) (.cst (.int (1))))) .none))) .nil)) .nil) (.cons (.ret (.ife (.cmp .eq (.call 13 (.cons (.lt 0) (.cons (.cst (.int (5))) .nil))) (.cst (.int (0)))) (.call 31 (.cons (.lt 0) .nil)) (.call 32 (.cons (.lt 0) (.cons (.var 1) .nil))))) .nil))
abbrev c33 : Fd := ⟨3, 4, [0], b33⟩ -- _law_bent
def b34 : CSs := (.cons (.set 2 (.bi .list (.cons (.pv 1) .nil))) (.cons (.loop (.name 3) (.rng (.cons (.call 14 (.cons (.lt 0) (.cons (.lst (.cons (.cst (.int (1))) (.cons (.cst (.int (0))) (.cons (.cst (.int (1))) (.cons (.cst (.int (2))) .nil))))) .nil))) .nil)) (.cons (.par [4, 5] (.cons (.call 13 (.cons (.lt 0) (.cons (.bin .add (.bi .len (.cons (.pv 2) .nil)) (.cst (.int (1)))) .nil))) (.cons (.call 13 (.cons (.lt 0) (.cons (.cst (.int (7))) .nil))) .nil))) (.cons (.ite (.orr (.cmp .eq (.pv 4) (.bi .len (.cons (.pv 2) .nil))) (.cmp .eq (.pv 5) (.cst (.int (0))))) (.cons (.ex (.mu .insert 2 .nil (.cons (.var 4) (.cons (.call 14 (.cons (.lt 0) (.cons (.lst (.cons (.cst (.str "")) (.cons (.cst (.str ".end 1 kept ")) (.cons (.cst (.str "+end 1 kept ")) (.cons (.bin .add (.cst (.str ".")) (.bin .mul (.cst (.str " ")) (.cst (.int (11))))) (.cons (.bin .mul (.cst (.str " ")) (.cst (.int (12)))) (.cons (.bin .mul (.cst (.str "x")) (.cst (.int (12)))) (.cons (.cst (.str ".mark 3 able")) (.cons (.bin .mul (.cst (.str "+")) (.cst (.int (12)))) .nil))))))))) .nil))) .nil)))) .nil) (.cons (.ite (.cmp .eq (.pv 5) (.cst (.int (1)))) (.cons (.st ⟨2, .nil, (.pv 4)⟩ (.cst (.str ""))) .nil) (.cons (.ite (.cmp .eq (.pv 5) (.cst (.int (2)))) (.cons (.ex (.mu .popAt 2 .nil (.cons (.var 4) .nil))) .nil) (.cons (.ite (.an (.cmp .eq (.pv 5) (.cst (.int (3)))) (.cmp .lt (.bin .add (.soft 4) (.cst (.int (1)))) (.bi .len (.cons (.pv 2) .nil)))) (.cons (.stt [⟨2, .nil, (.pv 4)⟩, ⟨2, .nil, (.bin .add (.soft 4) (.cst (.int (1))))⟩] (.tup (.cons (.sub (.pv 2) (.bin .add (.soft 4) (.cst (.int (1))))) (.cons (.sub (.pv 2) (.pv 4)) .nil)))) .nil) (.cons (.ite (.an (.cmp .eq (.pv 5) (.cst (.int (4)))) (.cmp .ne (.sub (.pv 2) (.pv 4)) (.cst (.str "")))) (.cons (.set 6 (.call 13 (.cons (.lt 0) (.cons (.cst (.int (12))) .nil)))) (.cons (.st ⟨2, .nil, (.pv 4)⟩ (.bin .add (.bin .add (.slc (.sub (.pv 2) (.pv 4)) .none (.some (.pv 6))) (.call 14 (.cons (.lt 0) (.cons (.lst (.cons (.cst (.str " ")) (.cons (.cst (.str "a")) (.cons (.cst (.str "0")) (.cons (.cst (.str "+")) (.cons (.cst (.str ".")) (.cons (.cst (.str "-")) .nil))))))) .nil)))) (.slc (.sub (.pv 2) (.pv 4)) (.some (.bin .add (.soft 6) (.cst (.int (1))))) .none))) .nil)) (.cons (.ite (.an (.cmp .eq (.pv 5) (.cst (.int (5)))) (.cmp .ne (.sub (.pv 2) (.pv 4)) (.cst (.str "")))) (.cons (.st ⟨2, .nil, (.pv 4)⟩ (.bin .add (.me .get (.dic (.cons (.cst (.str "+")) (.cons (.cst (.str ".")) (.cons (.cst (.str ".")) (.cons (.cst (.str "+")) .nil))))) (.cons (.sub (.sub (.pv 2) (.pv 4)) (.cst (.int (0)))) (.cons (.cst (.str "+")) .nil))) (.slc (.sub (.pv 2) (.pv 4)) (.some (.cst (.int (1)))) .none))) .nil) (.cons (.ex (.mu .insert 2 .nil (.cons (.var 4) (.cons (.sub (.pv 2) (.pv 4)) .nil)))) .nil)) .nil)) .nil)) .nil)) .nil)) .nil)) .nil))) (.cons (.ret (.bi .tuple (.cons (.pv 2) .nil))) .nil)))
abbrev c34 : Fd := ⟨2, 7, [0], b34⟩ -- _law_garbled
def b35 : CSs := (.cons (.set 1 (.call 12 (.cons (.var 0) .nil))) (.cons (.loop (.name 2) (.rng (.cons (.cst (.int (8))) .nil)) (.cons (.set 3 (.call 28 (.cons (.lt 1) .nil))) (.cons (.loop (.name 4) (.seq (.tup (.cons (.var 3) (.cons (.call 33 (.cons (.lt 1) (.cons (.var 3) (.cons (.cst (.int (3))) .nil)))) (.cons (.call 33 (.cons (.lt 1) (.cons (.call 33 (.cons (.lt 1) (.cons (.var 3) (.cons (.cst (.int (3))) .nil)))) (.cons (.cst (.int (3))) .nil)))) (.cons (.call 31 (.cons (.lt 1) .nil)) .nil)))))) (.cons (.par [5, 6] (.cons (.call 20 (.cons (.var 4) .nil)) (.cons (.bi .repr (.cons (.pv 4) .nil)) .nil))) (.cons (.ite (.cmp .ne (.bi .repr (.cons (.lst (.cons (.call 9 (.cons (.var 4) .nil)) (.cons (.callk 9 [0] (.cons (.var 4) .nil)) (.cons (.bi .repr (.cons (.pv 4) .nil)) .nil)))) .nil)) (.bi .repr (.cons (.lst (.cons (.mv 5) (.cons (.mv 5) (.cons (.mv 6) .nil)))) .nil))) (.cons (.ret (.cst (.bool false))) .nil) .nil) .nil))) .nil))) (.cons (.loop (.name 2) (.rng (.cons (.cst (.int (5))) .nil)) (.cons (.set 7 (.call 34 (.cons (.lt 1) (.cons (.call 30 (.cons (.call 29 (.cons (.lt 1) (.cons (.cst (.int (4))) .nil))) .nil)) .nil)))) (.cons (.set 8 (.tup (.cons (.var 7) (.cons (.call 14 (.cons (.lt 1) (.cons (.lst (.cons (.cst (.int (0))) (.cons (.bi .len (.cons (.pv 7) .nil)) (.cons (.call 13 (.cons (.lt 1) (.cons (.bin .add (.bi .len (.cons (.pv 7) .nil)) (.cst (.int (2)))) .nil))) (.cons (.bin .add (.bi .len (.cons (.pv 7) .nil)) (.cst (.int (1)))) (.cons (.neg (.cst (.int (1)))) (.cons (.cst (.bool true)) .nil))))))) .nil))) .nil)))) (.cons (.loop (.name 4) (.seq (.tup (.cons (.var 8) (.cons (.call 33 (.cons (.lt 1) (.cons (.var 8) (.cons (.cst (.int (3))) .nil)))) (.cons (.call 33 (.cons (.lt 1) (.cons (.tup (.cons (.var 7) (.cons (.cst (.int (0))) .nil))) (.cons (.cst (.int (3))) .nil)))) .nil))))) (.cons (.par [5, 6] (.cons (.call 24 (.cons (.var 4) .nil)) (.cons (.bi .repr (.cons (.pv 4) .nil)) .nil))) (.cons (.ite (.cmp .ne (.bi .repr (.cons (.lst (.cons (.call 10 (.cons (.var 4) .nil)) (.cons (.callk 10 [0] (.cons (.var 4) .nil)) (.cons (.bi .repr (.cons (.pv 4) .nil)) .nil)))) .nil)) (.bi .repr (.cons (.lst (.cons (.mv 5) (.cons (.mv 5) (.cons (.mv 6) .nil)))) .nil))) (.cons (.ret (.cst (.bool false))) .nil) .nil) .nil))) .nil)))) (.cons (.ret (.cst (.bool true))) .nil))))
abbrev c35 : Fd := ⟨1, 9, [], b35⟩ -- law
abbrev d0 : Df := ⟨"is_integer", top 3, ["thing"], ["thing"], [false], []⟩
abbrev d1 : Df := ⟨"is_integer_in", top 4, ["thing", "low", "high"], ["thing", "low", "high"], [false, false, false], []⟩
abbrev d2 : Df := ⟨"is_count", top 5, ["thing"], ["thing"], [false], []⟩
abbrev d3 : Df := ⟨"is_word", top 6, ["thing"], ["thing", ".0", "letter"], [false], []⟩
abbrev d4 : Df := ⟨"is_tuple_of", top 7, ["thing", "many"], ["thing", "many"], [false, false], []⟩
abbrev d5 : Df := ⟨"has_row_form", top 14, ["thing"], ["thing", "parts", ".0", "part", "item"], [false], []⟩
abbrev d6 : Df := ⟨"has_worth_form", top 15, ["thing"], ["thing"], [false], []⟩
abbrev d7 : Df := ⟨"has_part_form", top 16, ["part", "thing"], ["part", "thing"], [false, false], []⟩
abbrev d8 : Df := ⟨"has_houses_form", top 17, ["thing"], ["thing", ".0", "house"], [false], []⟩
abbrev d9 : Df := ⟨"is_log_row", top 20, ["thing"], ["thing"], [false], []⟩
abbrev d10 : Df := ⟨"is_device", top 21, ["thing"], ["thing", "sectors", "safe", ".0", "sector"], [false], []⟩
abbrev d11 : Df := ⟨"is_sector", top 22, ["thing"], ["thing"], [false], []⟩
abbrev d12 : Df := ⟨"_law_deck", top 24, ["_law_script"], ["_law_script", "_law_mixed", "_law_cell"], [false], []⟩
abbrev d13 : Df := ⟨"_law_draw", top 25, ["_law_deck_here", "_law_many"], ["_law_deck_here", "_law_many", "_law_number", "_law_cell"], [true, false], [0]⟩
abbrev d14 : Df := ⟨"_law_pick", top 26, ["_law_deck_here", "_law_some"], ["_law_deck_here", "_law_some"], [true, false], [0]⟩
abbrev d15 : Df := ⟨"_law_is_integer", top 27, ["_law_thing"], ["_law_thing"], [false], []⟩
abbrev d16 : Df := ⟨"_law_is_number", top 28, ["_law_thing"], ["_law_thing"], [false], []⟩
abbrev d17 : Df := ⟨"_law_is_word", top 29, ["_law_thing"], ["_law_thing", ".0", "_law_x"], [false], []⟩
abbrev d18 : Df := ⟨"_law_is_worth", top 30, ["_law_thing"], ["_law_thing"], [false], []⟩
abbrev d19 : Df := ⟨"_law_are_houses", top 31, ["_law_thing"], ["_law_thing", ".0", "_law_it"], [false], []⟩
abbrev d20 : Df := ⟨"_law_is_row", top 32, ["_law_thing"], ["_law_thing", "_law_word", "_law_rest", "_law_many", ".0", "_law_it"], [false], []⟩
abbrev d21 : Df := ⟨"_law_item_text", top 33, ["_law_item"], ["_law_item", ".0", "_law_it"], [false], []⟩
abbrev d22 : Df := ⟨"_law_row_text", top 34, ["_law_row_here"], ["_law_row_here", ".0", "_law_item"], [false], []⟩
abbrev d23 : Df := ⟨"_law_sectors", top 35, ["_law_row_here"], ["_law_row_here", "_law_text", "_law_found"], [false], []⟩
abbrev d24 : Df := ⟨"_law_is_device", top 36, ["_law_thing"], ["_law_thing", ".0", "_law_it"], [false], []⟩
abbrev d25 : Df := ⟨"_law_key", top 37, ["_law_deck_here"], ["_law_deck_here"], [true], [0]⟩
abbrev d26 : Df := ⟨"_law_worth", top 38, ["_law_deck_here"], ["_law_deck_here"], [true], [0]⟩
abbrev d27 : Df := ⟨"_law_deal", top 39, ["_law_deck_here"], ["_law_deck_here"], [true], [0]⟩
abbrev d28 : Df := ⟨"_law_row", top 40, ["_law_deck_here"], ["_law_deck_here", "_law_way", "_law_deal_here", "_law_some"], [true], [0]⟩
abbrev d29 : Df := ⟨"_law_rows", top 41, ["_law_deck_here", "_law_most"], ["_law_deck_here", "_law_most", ".0", "_law_turn"], [true, false], [0]⟩
abbrev d30 : Df := ⟨"_law_all_sectors", top 42, ["_law_rows_here"], ["_law_rows_here", "_law_found", "_law_row_here"], [false], []⟩
abbrev d31 : Df := ⟨"_law_any", top 43, ["_law_deck_here"], ["_law_deck_here", "_law_some"], [true], [0]⟩
abbrev d32 : Df := ⟨"_law_turned_part", top 44, ["_law_deck_here", "_law_thing"], ["_law_deck_here", "_law_thing", "_law_at", "_law_some"], [true, false], [0]⟩
abbrev d33 : Df := ⟨"_law_bent", top 45, ["_law_deck_here", "_law_thing", "_law_deep"], ["_law_deck_here", "_law_thing", "_law_deep", "_law_at"], [true, false, false], [0]⟩
abbrev d34 : Df := ⟨"_law_garbled", top 46, ["_law_deck_here", "_law_sectors_here"], ["_law_deck_here", "_law_sectors_here", "_law_found", "_law_turn", "_law_at", "_law_way", "_law_spot"], [true, false], [0]⟩
abbrev d35 : Df := ⟨"law", top 47, ["_law_script"], ["_law_script", "_law_deck_here", "_law_turn", "_law_row_here", "_law_thing", "_law_due", "_law_before", "_law_sectors_here", "_law_device"], [false], []⟩
def dfs : List Df := [d0, d1, d2, d3, d4, d5, d6, d7, d8, d9, d10, d11, d12, d13, d14, d15, d16, d17, d18, d19, d20, d21, d22, d23, d24, d25, d26, d27, d28, d29, d30, d31, d32, d33, d34, d35]
def fns : List (Str × List Bool) := ([("is_integer", [false]), ("is_integer_in", [false, false, false]), ("is_count", [false]), ("is_word", [false]), ("is_tuple_of", [false, false]), ("has_row_form", [false]), ("has_worth_form", [false]), ("has_part_form", [false, false]), ("has_houses_form", [false]), ("is_log_row", [false]), ("is_device", [false]), ("is_sector", [false]), ("_law_deck", [false]), ("_law_draw", [true, false]), ("_law_pick", [true, false]), ("_law_is_integer", [false]), ("_law_is_number", [false]), ("_law_is_word", [false]), ("_law_is_worth", [false]), ("_law_are_houses", [false])] : List (Str × List Bool)) ++ ([("_law_is_row", [false]), ("_law_item_text", [false]), ("_law_row_text", [false]), ("_law_sectors", [false]), ("_law_is_device", [false]), ("_law_key", [true]), ("_law_worth", [true]), ("_law_deal", [true]), ("_law_row", [true]), ("_law_rows", [true, false]), ("_law_all_sectors", [false]), ("_law_any", [true]), ("_law_turned_part", [true, false]), ("_law_bent", [true, false, false]), ("_law_garbled", [true, false]), ("law", [false])] : List (Str × List Bool))
def tb : Tb := ⟨fns,
  ([("ALPHABET", .str "abcdefghijklmnopqrstuvwxyz"), ("LONGEST_WORD", .int (10)), ("ROLES", .tuple [.str "leader", .str "member"]), ("ROW_ENDS", .tuple [.str "kept", .str "dropped"]), ("FEWEST_HOUSES", .int (2)), ("MOST_HOUSES", .int (4)), ("SECTOR_SIZE", .int (12))] : List (Str × PyData)),
  ([(9, 0, ["thing"], [0]), (10, 0, ["thing"], [0])] : List (Nat × Nat × List Str × List Nat)),
  ([("ROW_PARTS", [("begin", .tuple [.str "role", .str "houses"]), ("read", .tuple [.str "word"]), ("write", .tuple [.str "word", .str "worth", .str "worth"]), ("undo", .tuple [.str "word", .str "worth"]), ("mark", .tuple [.str "word"]), ("end", .tuple [.str "end"])])] : List (Str × List (Str × PyData)))⟩
def cores : List Fd := [c0, c1, c2, c3, c4, c5, c6, c7, c8, c9, c10, c11, c12, c13, c14, c15, c16, c17, c18, c19, c20, c21, c22, c23, c24, c25, c26, c27, c28, c29, c30, c31, c32, c33, c34, c35]
set_option maxHeartbeats 0 in
theorem cores_eq : dfs.map (Df.core tb) = cores := by kernel_rfl
abbrev G (l : Nat) : Nat → List U → Cr := Fl tb dfs l
theorem core {g : Nat} {d : Fd} (h : cores[g]? = some d) : (dfs.map (Df.core tb))[g]? = some d := by rw [cores_eq]; exact h
-- 0 is_integer
-- 1 is_integer_in
-- 2 is_count
-- 3 is_word
-- 4 is_tuple_of
-- 5 has_row_form
-- 6 has_worth_form
-- 7 has_part_form
-- 8 has_houses_form
-- 9 is_log_row
-- 10 is_device
-- 11 is_sector
-- 12 _law_deck
-- 13 _law_draw
-- 14 _law_pick
-- 15 _law_is_integer
-- 16 _law_is_number
-- 17 _law_is_word
-- 18 _law_is_worth
-- 19 _law_are_houses
-- 20 _law_is_row
-- 21 _law_item_text
-- 22 _law_row_text
-- 23 _law_sectors
-- 24 _law_is_device
-- 25 _law_key
-- 26 _law_worth
-- 27 _law_deal
-- 28 _law_row
-- 29 _law_rows
-- 30 _law_all_sectors
-- 31 _law_any
-- 32 _law_turned_part
-- 33 _law_bent
-- 34 _law_garbled
-- 35 law
end Lw
/-! The program's looks. -/
namespace Lw
open PySem PySem.Spec PyProof.Rows L2 Fi
section
variable {l : Nat} {x : PyData} {K : U → List U → Prop} {X : Xn → List U → Prop}
theorem is_integer_k (h : K (.d (.bool (intB x))) [.gone]) : kCall (G (l + 1) 0 [.d x]) K X := by
  refine kDef (d := c0) (core rfl) rfl ?_
  cases x <;> exact h
theorem law_is_integer_k (h : K (.d (.bool (intB x))) [.gone]) : kCall (G (l + 1) 15 [.d x]) K X := by
  refine kDef (d := c15) (core rfl) rfl ?_
  cases x <;> exact h
theorem is_count_k (h : K (.d (.bool (cntB x))) [.gone]) : kCall (G (l + 2) 2 [.d x]) K X := by
  refine kDef (d := c2) (core rfl) rfl ?_
  conv => whnf
  refine is_integer_k ?_
  cases x <;> exact h
theorem law_is_number_k (h : K (.d (.bool (cntB x))) [.gone]) : kCall (G (l + 2) 16 [.d x]) K X := by
  refine kDef (d := c16) (core rfl) rfl ?_
  conv => whnf
  refine law_is_integer_k ?_
  cases x <;> exact h
def inB (lo hi : Int) : PyData → Bool
  | .int i => decide (lo ≤ i) && decide (i ≤ hi)
  | _ => false
theorem is_integer_in_k {lo hi : Int} (h : K (.d (.bool (inB lo hi x))) [.gone, .gone, .gone]) : kCall (G (l + 2) 1 [.d x, .d (.int lo), .d (.int hi)]) K X := by
  refine kDef (d := c1) (core rfl) rfl ?_
  conv => whnf
  refine is_integer_k ?_
  cases x with
  | int i => exact kDec (lo ≤ i) (fun q => KB h (by simp [inB, q])) fun q => KB h (by simp [inB, q])
  | _ => exact h
theorem is_word_k (hs : Sm x) (h : K (.d (.bool (wrdB x))) [.gone]) : kCall (G (l + 1) 3 [.d x]) K X := by
  refine kDef (d := c3) (core rfl) rfl ?_
  cases x with
  | str z =>
    conv => whnf
    refine kOpt_i (len_str hs.str) ?_
    refine kBool_i (fun q => ?_) fun q => KB h ?_
    · conv => whnf
      refine kBool_i (fun q2 => KB h ?_) fun q2 => ?_
      · simp at q q2; simp [wrdB]; omega
      · refine ⟨hs.str, ?_⟩
        conv => whnf
        refine kLc_map (fun d => .bool (match d with | .str w => inAbc (w.cps.toList.headD 0) | _ => false)) ?_ rfl (fun d hd => ?_) ?_
        · rw [List.length_map]; exact hs.str
        · obtain ⟨c, hc, rfl⟩ := List.mem_map.mp hd
          conv => whnf
          refine ⟨?_, rfl⟩
          show some (PyData.bool (false != decide (c ∈ ("abcdefghijklmnopqrstuvwxyz" : Str).cps.toList))) = some (.bool (inAbc c))
          rw [abc_mem]
          cases inAbc c <;> rfl
        · conv => whnf
          refine kOpt_i (all_nl _ _) (KB h ?_)
          rw [List.all_map]
          simp at q q2
          have e1 : decide (1 ≤ z.length) = true := decide_eq_true (by omega)
          have e2 : decide (z.length ≤ 10) = true := decide_eq_true (by omega)
          show _ = (decide (1 ≤ z.length) && decide (z.length ≤ 10) && z.cps.toList.all inAbc)
          rw [e1, e2]
          rfl
    · simp at q; simp [wrdB]; omega
  | _ => exact h
theorem law_is_word_k (hs : Sm x) (h : K (.d (.bool (wrdB x))) [.gone]) : kCall (G (l + 1) 17 [.d x]) K X := by
  refine kDef (d := c17) (core rfl) rfl ?_
  cases x with
  | str z =>
    conv => whnf
    refine kOpt_i (len_str hs.str) ?_
    refine kBool_i (fun q => ?_) fun q => KB h ?_
    · conv => whnf
      refine kBool_i (fun q2 => KB h ?_) fun q2 => ?_
      · simp at q q2; simp [wrdB]; omega
      · refine ⟨hs.str, ?_⟩
        conv => whnf
        refine kLc_filter (fun d => match d with | .str w => !inAbc (w.cps.toList.headD 0) | _ => false) id ?_ rfl (fun d hd => ?_) ?_
        · rw [List.length_map]; exact hs.str
        · obtain ⟨c, hc, rfl⟩ := List.mem_map.mp hd
          conv => whnf
          have e : decide (c ∈ ("abcdefghijklmnopqrstuvwxyz" : Str).cps.toList) = inAbc c := abc_mem c
          refine kBool_i (fun q => ?_) fun q => ?_
          · exact ⟨by show (!inAbc c) = true; rw [← e]; simpa using q, rfl, rfl⟩
          · exact ⟨by show (!inAbc c) = false; rw [← e]; simpa using q, rfl⟩
        · conv => whnf
          refine KB h ?_
          rw [frzL_leafs, List.map_id]
          simp at q q2
          have e1 : decide (1 ≤ z.length) = true := decide_eq_true (by omega)
          have e2 : decide (z.length ≤ 10) = true := decide_eq_true (by omega)
          show _ = (decide (1 ≤ z.length) && decide (z.length ≤ 10) && z.cps.toList.all inAbc)
          rw [e1, e2, List.filter_map]
          generalize z.cps.toList = cs
          clear e1 e2 q q2 h hs
          induction cs with
          | nil => rfl
          | cons c cs ih =>
            rw [List.filter_cons]
            show List.isEmpty (List.map _ (if (!inAbc c) = true then _ else _)) = (inAbc c && cs.all inAbc)
            cases inAbc c with
            | true => exact ih
            | false => rfl
    · simp at q; simp [wrdB]; omega
  | _ => exact h
def worthB : PyData → Bool
  | .none => true
  | .int _ => true
  | _ => false
theorem has_worth_form_k (h : K (.d (.bool (worthB x))) [.gone]) : kCall (G (l + 2) 6 [.d x]) K X := by
  refine kDef (d := c6) (core rfl) rfl ?_
  cases x with
  | none => exact h
  | _ => conv => whnf
         exact is_integer_k h
theorem law_is_worth_k (h : K (.d (.bool (worthB x))) [.gone]) : kCall (G (l + 2) 18 [.d x]) K X := by
  refine kDef (d := c18) (core rfl) rfl ?_
  cases x with
  | none => exact h
  | _ => conv => whnf
         exact law_is_integer_k h
theorem is_tuple_of_k {n : Int} {b : Bool} (hb : (match x with | .tuple xs => decide ((xs.length : Int) = n) | _ => false) = b) (h : K (.d (.bool b)) [.gone, .gone]) : kCall (G (l + 1) 4 [.d x, .d (.int n)]) K X := by
  refine kDef (d := c4) (core rfl) rfl ?_
  subst hb
  cases x with
  | tuple xs =>
    conv => whnf
    refine KB h ?_
    exact eqv_int ..
  | _ => exact h
/-- some houses -/
def housesB : PyData → Bool
  | .tuple xs => decide (2 ≤ xs.length) && decide (xs.length ≤ 4) && xs.all (inB 0 3) && (match allI xs with
    | some is => decide ((dupB is).length = is.length)
    | none => false)
  | _ => false
theorem allI_map : ∀ is : List Int, allI (is.map .int) = some is
  | [] => rfl
  | i :: is => by show (allI (is.map .int)).map (i :: ·) = _; rw [allI_map is]; rfl
theorem in_ints {lo hi : Int} : ∀ {xs : List PyData}, xs.all (inB lo hi) = true → ∃ is : List Int, xs = is.map .int
  | [], _ => ⟨[], rfl⟩
  | x :: xs, h => by
    rw [List.all_cons, Bool.and_eq_true] at h
    obtain ⟨is, rfl⟩ := in_ints h.2
    cases x with
    | int i => exact ⟨i :: is, rfl⟩
    | _ => cases h.1
theorem has_houses_form_k (hs : Sm x) (h : K (.d (.bool (housesB x))) [.gone]) : kCall (G (l + 3) 8 [.d x]) K X := by
  refine kDef (d := c8) (core rfl) rfl ?_
  cases x with
  | tuple xs =>
    conv => whnf
    refine kBool_i (fun q => ?_) fun q => KB h ?_
    · conv => whnf
      refine kBool_i (fun q2 => KB h ?_) fun q2 => ?_
      · simp at q q2; simp [housesB]; omega
      · conv => whnf
        refine kLc_map (fun d => .bool (inB 0 3 d)) hs.tup rfl (fun d hd => ?_) ?_
        · conv => whnf
          refine is_integer_in_k ?_
          exact ⟨rfl, rfl⟩
        · conv => whnf
          refine kOpt_i (all_nl _ _) ?_
          conv => whnf
          refine kBool_i (fun q3 => KB h ?_) fun q3 => ?_
          · simp at q3
            obtain ⟨d, h1, h2⟩ := q3
            have : xs.all (inB 0 3) = false := by rw [List.all_eq_false]; exact ⟨d, h1, by rw [h2]; decide⟩
            show false = (decide (2 ≤ xs.length) && decide (xs.length ≤ 4) && xs.all (inB 0 3) && _)
            rw [this]; simp
          · have q3 : xs.all (inB 0 3) = true := by simpa using q3
            obtain ⟨is, rfl⟩ := in_ints q3
            simp at q q2
            conv => whnf
            refine kOpt_i (v := .d (.int (dupB is).length)) ?_ (KB h ?_)
            · show ((allI (is.map .int)).bind fun is => if is.length < 4000 then some (U.d (.int (dupB is).length)) else none) = _
              rw [allI_map]
              show (if is.length < 4000 then some (U.d (.int (dupB is).length)) else none) = _
              rw [if_pos (by omega)]
            · show _ = (decide (2 ≤ (is.map PyData.int).length) && decide ((is.map PyData.int).length ≤ 4) && (is.map PyData.int).all (inB 0 3) && (match allI (is.map PyData.int) with | some is => decide ((dupB is).length = is.length) | none => false))
              rw [q3, allI_map]
              have e1 : decide (2 ≤ (is.map PyData.int).length) = true := decide_eq_true (by simp; omega)
              have e2 : decide ((is.map PyData.int).length ≤ 4) = true := decide_eq_true (by simp; omega)
              rw [e1, e2, eqv_len, List.length_map]
              simp
    · simp at q; simp [housesB]; omega
  | _ => exact h
/-- a part of a row -/
def partB (p : Str) (x : PyData) : Bool :=
  if p = "role" then anyS ["leader", "member"] x
  else if p = "end" then anyS ["kept", "dropped"] x
  else if p = "houses" then housesB x
  else if p = "word" then wrdB x else worthB x
theorem has_part_form_k {p : Str} (hs : Sm x) (h : K (.d (.bool (partB p x))) [.gone, .gone]) : kCall (G (l + 4) 7 [.d (.str p), .d x]) K X := by
  refine kDef (d := c7) (core rfl) rfl ?_
  conv => whnf
  unfold partB at h
  refine kDec (p = "role") (fun q => ?_) fun q => ?_
  · rw [if_pos q] at h
    conv => whnf
    exact kOpt_i (in_strs ["leader", "member"]) h
  · rw [if_neg q] at h
    conv => whnf
    refine kDec (p = "end") (fun q => ?_) fun q => ?_
    · rw [if_pos q] at h
      conv => whnf
      exact kOpt_i (in_strs ["kept", "dropped"]) h
    · rw [if_neg q] at h
      conv => whnf
      refine kDec (p = "houses") (fun q => ?_) fun q => ?_
      · rw [if_pos q] at h
        conv => whnf
        exact has_houses_form_k hs h
      · rw [if_neg q] at h
        conv => whnf
        refine kDec (p = "word") (fun q => ?_) fun q => ?_
        · rw [if_pos q] at h
          conv => whnf
          exact is_word_k hs h
        · rw [if_neg q] at h
          conv => whnf
          exact has_worth_form_k h
def partsOf : List (Str × List Str) := [("begin", ["role", "houses"]), ("read", ["word"]), ("write", ["word", "worth", "worth"]), ("undo", ["word", "worth"]), ("mark", ["word"]), ("end", ["end"])]
/-- the parts by a row's word -/
def prts : List (Str × List Str) → Str → Option (List Str)
  | [], _ => none
  | p :: r, w => if p.1 = w then some p.2 else prts r w
def partsB (ps : List Str) (xs : List PyData) : Bool := (ps.zip xs).all fun q => partB q.1 q.2
/-- a row -/
def rowB : PyData → Bool
  | .tuple (.str w :: d :: r) => (match prts partsOf w with
    | some ps => decide (r.length = ps.length) && cntB d && partsB ps r
    | none => false)
  | _ => false
theorem look_prts (w : Str) : lookC [("begin", .tuple [.str "role", .str "houses"]), ("read", .tuple [.str "word"]), ("write", .tuple [.str "word", .str "worth", .str "worth"]), ("undo", .tuple [.str "word", .str "worth"]), ("mark", .tuple [.str "word"]), ("end", .tuple [.str "end"])] w = (prts partsOf w).map fun ps => .tuple (ps.map .str) := by
  have : ∀ l : List (Str × List Str), lookC (l.map fun p => (p.1, .tuple (p.2.map .str))) w = (prts l w).map fun ps => .tuple (ps.map .str) := by
    intro l
    induction l with
    | nil => rfl
    | cons p r ih =>
      show (if p.1 = w then some (.tuple (p.2.map .str)) else lookC (r.map fun p => (p.1, .tuple (p.2.map .str))) w) = _
      unfold prts
      split
      · rfl
      · exact ih
  exact this partsOf
theorem zipD_str (ps : List Str) (r : List PyData) : zipD (ps.map .str) r = (ps.zip r).map fun q => .tuple [.str q.1, q.2] := by
  unfold zipD
  rw [List.zip_map_left, List.map_map]
  rfl
theorem has_row_form_k (hs : Sm x) (h : K (.d (.bool (rowB x))) [.gone]) : kCall (G (l + 5) 5 [.d x]) K X := by
  refine kDef (d := c5) (core rfl) rfl ?_
  cases x with
  | tuple xs =>
    rcases xs with _ | ⟨a, _ | ⟨d, r⟩⟩
    · exact h
    · cases a <;> exact h
    · cases a with
      | str w =>
        conv => whnf
        refine kOpt_i (sub_tup 0 rfl) ?_
        conv => whnf
        refine kOpt_i (sub_tup 0 rfl) ?_
        conv => whnf
        rw [look_prts]
        have hr : rowB (.tuple (.str w :: d :: r)) = (match prts partsOf w with
          | some ps => decide (r.length = ps.length) && cntB d && partsB ps r
          | none => false) := rfl
        cases qp : prts partsOf w with
        | none => rw [hr, qp] at h; exact h
        | some ps =>
          rw [hr, qp] at h
          conv => whnf
          refine kOpt_i (sub_tup 0 rfl) ?_
          conv => whnf
          rw [look_prts, qp]
          conv => whnf
          have el : PyData.eqv (.int ((PyData.str w :: d :: r).length : Int)) (.int (2 + ((ps.map PyData.str).length : Int))) = decide (r.length = ps.length) := by
            rw [eqv_int, List.length_map, List.length_cons, List.length_cons]
            exact decide_eq_decide.mpr (by omega)
          refine kBool_i (fun q => KB h ?_) fun q => ?_
          · rw [el] at q
            show false = (decide (r.length = ps.length) && cntB d && partsB ps r)
            have q : (!decide (r.length = ps.length)) = true := q
            rw [Bool.not_eq_true'] at q
            rw [q]; rfl
          · conv => whnf
            refine kOpt_i (sub_tup 1 rfl) ?_
            conv => whnf
            refine is_count_k ?_
            conv => whnf
            refine kBool_i (fun q2 => KB h ?_) fun q2 => ?_
            · have q2 : (!cntB d) = true := q2
              rw [Bool.not_eq_true'] at q2
              show false = (decide (r.length = ps.length) && cntB d && partsB ps r)
              rw [q2]; simp
            · have q2 : (!cntB d) = false := q2
              rw [Bool.not_eq_false'] at q2
              rw [el] at q
              have q : (!decide (r.length = ps.length)) = false := q
              rw [Bool.not_eq_false'] at q
              conv => whnf
              have ec : cutD (PyData.str w :: d :: r) (some 2) none = r := cut_lo _ 2
              rw [ec, zipD_str]
              refine kLc_map (fun z => .bool (match z with | .tuple [.str p, y] => partB p y | _ => false)) ?_ rfl (fun z hz => ?_) ?_
              · have := hs.tup
                simp only [List.length_map, List.length_zip, List.length_cons] at this ⊢
                omega
              · obtain ⟨⟨p, y⟩, hm, rfl⟩ := List.mem_map.mp hz
                conv => whnf
                refine has_part_form_k (hs.item ?_) ?_
                · have := (List.of_mem_zip hm).2
                  simp [this]
                · exact ⟨rfl, rfl⟩
              · conv => whnf
                refine kOpt_i (all_nl _ _) (KB h ?_)
                show _ = (decide (r.length = ps.length) && cntB d && partsB ps r)
                rw [q, q2, List.all_map]
                rfl
      | _ => 
        conv => whnf
        refine kOpt_i (sub_tup 0 rfl) ?_
        exact h
  | _ => exact h
theorem is_log_row_k (hs : Sm x) (h : K (.d (.bool (rowB x))) [.gone]) : kCall (G (l + 6) 9 [.d x]) K X := by
  refine kDef (d := c9) (core rfl) rfl ?_
  conv => whnf
  exact has_row_form_k hs h
/-- a sector -/
def secB : PyData → Bool
  | .str z => decide (z.length = 0) || decide (z.length = 12)
  | _ => false
theorem in_0_12 (n : Nat) : (false != (([.int 0, .int 12] : List PyData).any fun y => PyData.eqv y (.int n))) = (decide (n = 0) || decide (n = 12)) := by
  have : (([.int 0, .int 12] : List PyData).any fun y => PyData.eqv y (.int n)) = (decide (n = 0) || decide (n = 12)) := by
    show (PyData.eqv (.int (0 : Nat)) (.int n) || (PyData.eqv (.int (12 : Nat)) (.int n) || false)) = _
    rw [eqv_len, eqv_len, Bool.or_false]
    congr 1 <;> exact decide_eq_decide.mpr (by omega)
  rw [this]
  cases (decide (n = 0) || decide (n = 12)) <;> rfl
theorem is_sector_k (hs : Sm x) (h : K (.d (.bool (secB x))) [.gone]) : kCall (G (l + 1) 11 [.d x]) K X := by
  refine kDef (d := c11) (core rfl) rfl ?_
  cases x with
  | str z =>
    conv => whnf
    refine kOpt_i (len_str hs.str) ?_
    conv => whnf
    exact KB h (in_0_12 z.length)
  | _ => exact h
/-- a device -/
def devB : PyData → Bool
  | .tuple [.tuple xs, .int i] => xs.all secB && (decide (0 ≤ i) && decide (i ≤ xs.length)) && !(xs.take i.toNat).any fun x => isS "" x
  | _ => false
theorem allS_sec : ∀ {xs : List PyData}, xs.all secB = true → ∃ zs : List Str, xs = zs.map .str
  | [], _ => ⟨[], rfl⟩
  | x :: xs, h => by
    rw [List.all_cons, Bool.and_eq_true] at h
    obtain ⟨zs, rfl⟩ := allS_sec h.2
    cases x with
    | str z => exact ⟨z :: zs, rfl⟩
    | _ => cases h.1
theorem is_device_k (hs : Sm x) (h : K (.d (.bool (devB x))) [.gone]) : kCall (G (l + 3) 10 [.d x]) K X := by
  refine kDef (d := c10) (core rfl) rfl ?_
  conv => whnf
  refine is_tuple_of_k (b := match x with | .tuple [_, _] => true | _ => false) ?_ ?_
  · cases x with
    | tuple xs =>
      rcases xs with _ | ⟨a, _ | ⟨b, _ | ⟨c, r⟩⟩⟩ <;> simp <;> omega
    | _ => rfl
  · cases x with
    | tuple xs =>
      rcases xs with _ | ⟨a, _ | ⟨b, _ | ⟨c, r⟩⟩⟩
      · exact h
      · cases a <;> exact h
      · cases a with
        | tuple xs =>
          have hx : Sm (.tuple xs) := hs.item (by simp)
          conv => whnf
          refine kLc_map (fun d => .bool (secB d)) hx.tup rfl (fun d hd => ?_) ?_
          · conv => whnf
            refine is_sector_k (hx.item hd) ?_
            exact ⟨rfl, rfl⟩
          · conv => whnf
            refine kOpt_i (all_nl _ _) ?_
            conv => whnf
            refine kBool_i (fun q => KB h ?_) fun q => ?_
            · have q : (!xs.all secB) = true := q
              rw [Bool.not_eq_true'] at q
              cases b with
              | int i =>
                show false = (xs.all secB && (decide (0 ≤ i) && decide (i ≤ xs.length)) && !(xs.take i.toNat).any fun x => isS "" x)
                rw [q]; rfl
              | _ => rfl
            · have q : (!xs.all secB) = false := q
              rw [Bool.not_eq_false'] at q
              conv => whnf
              refine is_integer_in_k ?_
              cases b with
              | int i =>
                have hd : devB (.tuple [.tuple xs, .int i]) = (xs.all secB && (decide (0 ≤ i) && decide (i ≤ xs.length)) && !(xs.take i.toNat).any fun x => isS "" x) := rfl
                conv => whnf
                refine kBool_i (fun q2 => ?_) fun q2 => KB h ?_
                · obtain ⟨zs, rfl⟩ := allS_sec q
                  conv => whnf
                  have q3 : (decide (0 ≤ i) && decide (i ≤ ((zs.map PyData.str).length : Int))) = true := q2
                  have q4 : 0 ≤ i := by simp at q3; exact q3.1
                  have ec : cutD (zs.map PyData.str) none (some i) = (zs.take i.toNat).map .str := by
                    have := cut_hi (zs.map PyData.str) i.toNat
                    rw [Int.toNat_of_nonneg q4] at this
                    rw [this, List.map_take]
                  rw [ec]
                  refine kOpt_i (nin_strs (zs.take i.toNat)) (KB h ?_)
                  rw [hd, q, q3, ← List.map_take, List.any_map]
                  show (!(zs.take i.toNat).any fun z => decide (("" : Str) = z)) = (true && true && !(zs.take i.toNat).any fun z => decide (z = ""))
                  have : (fun z : Str => decide (("" : Str) = z)) = fun z : Str => decide (z = ("" : Str)) := funext fun z => decide_eq_decide.mpr ⟨fun e => e.symm, fun e => e.symm⟩
                  rw [this]; rfl
                · have q3 : (decide (0 ≤ i) && decide (i ≤ (xs.length : Int))) = false := q2
                  rw [hd, q, q3]; rfl
              | _ => exact h
        | _ => cases b <;> exact h
      · cases a <;> cases b <;> exact h
    | _ => exact h
end
end Lw
/-! The law's looks. -/
namespace Lw
open PySem PySem.Spec PyProof.Rows L2 Fi
section
variable {l : Nat} {x : PyData} {K : U → List U → Prop} {X : Xn → List U → Prop}
theorem all_int {xs : List PyData} (h : (xs.all fun d => !!intB d) = true) : ∃ is : List Int, xs = is.map .int := by
  induction xs with
  | nil => exact ⟨[], rfl⟩
  | cons x xs ih =>
    rw [List.all_cons, Bool.and_eq_true] at h
    obtain ⟨is, rfl⟩ := ih h.2
    cases x with
    | int i => exact ⟨i :: is, rfl⟩
    | _ => cases h.1
theorem housesB_t (xs : List PyData) : housesB (.tuple xs) = (decide (2 ≤ xs.length) && decide (xs.length ≤ 4) && xs.all (inB 0 3) && (match allI xs with
    | some is => decide ((dupB is).length = is.length)
    | none => false)) := rfl
def offB : PyData → Bool
  | .int i => !(decide (0 ≤ i) && decide (i < 4))
  | _ => true
theorem law_are_houses_k (hs : Sm x) (h : K (.d (.bool (housesB x))) [.gone]) : kCall (G (l + 2) 19 [.d x]) K X := by
  refine kDef (d := c19) (core rfl) rfl ?_
  cases x with
  | tuple xs =>
    rw [housesB_t] at h
    conv => whnf
    refine kBool_i (fun q => ?_) fun q => KB h ?_
    · conv => whnf
      refine kBool_i (fun q2 => KB h ?_) fun q2 => ?_
      · simp at q q2; have : decide (xs.length ≤ 4) = false := decide_eq_false (by omega)
        rw [this]; simp
      · conv => whnf
        refine kLc_filter (fun d => !intB d) (fun _ => .int 1) hs.tup rfl (fun d hd => ?_) ?_
        · conv => whnf
          refine law_is_integer_k ?_
          conv => whnf
          refine kBool_i (fun q => ⟨q, rfl, rfl⟩) fun q => ⟨q, rfl⟩
        · conv => whnf
          rw [lc_empty]
          refine kBool_i (fun q3 => KB h ?_) fun q3 => ?_
          · simp at q3
            obtain ⟨d, h1, h2⟩ := q3
            have : xs.all (inB 0 3) = false := by
              rw [List.all_eq_false]
              exact ⟨d, h1, by cases d <;> first | exact Bool.false_ne_true | cases h2⟩
            rw [this]; simp
          · have q3 : (xs.all fun d => !!intB d) = true := by simpa using q3
            obtain ⟨is, rfl⟩ := all_int q3
            simp at q q2
            conv => whnf
            refine kLc_filter offB (fun _ => .int 1) (by simp; unfold most; omega) rfl (fun d hd => ?_) ?_
            · obtain ⟨i, _, rfl⟩ := List.mem_map.mp hd
              conv => whnf
              refine kBool_i (fun q => ?_) fun q => ⟨?_, rfl, rfl⟩
              · conv => whnf
                refine kBool_i (fun q2 => ⟨?_, rfl, rfl⟩) fun q2 => ⟨?_, rfl⟩
                · simp at q q2; unfold offB; simp; omega
                · simp at q q2; unfold offB; simp; omega
              · simp at q; unfold offB; simp; omega
            · conv => whnf
              rw [lc_empty]
              have el : decide (2 ≤ (is.map PyData.int).length) = true := decide_eq_true (by simp; omega)
              have eu : decide ((is.map PyData.int).length ≤ 4) = true := decide_eq_true (by simp; omega)
              have eo : ((is.map PyData.int).all fun d => !offB d) = (is.map PyData.int).all (inB 0 3) := by
                congr 1
                funext d
                cases d with
                | int i =>
                  show (!!(decide (0 ≤ i) && decide (i < 4))) = (decide (0 ≤ i) && decide (i ≤ 3))
                  rw [Bool.not_not]
                  congr 1
                  exact decide_eq_decide.mpr (by omega)
                | _ => rfl
              refine kBool_i (fun q4 => ?_) fun q4 => KB h ?_
              · conv => whnf
                refine kOpt_i (v := .d (.int (dupB is).length)) ?_ ?_
                · show ((allI (is.map .int)).bind fun is => if is.length < 4000 then some (U.d (.int (dupB is).length)) else none) = _
                  rw [allI_map]
                  show (if is.length < 4000 then some (U.d (.int (dupB is).length)) else none) = _
                  rw [if_pos (by omega)]
                · refine KB h ?_
                  rw [el, eu, ← eo, allI_map]
                  have q4 : ((is.map PyData.int).all fun d => !offB d) = true := q4
                  rw [q4, eqv_len, List.length_map]
                  simp
              · have q4 : ((is.map PyData.int).all fun d => !offB d) = false := q4
                rw [← eo, q4]; simp
    · simp at q; have : decide (2 ≤ xs.length) = false := decide_eq_false (by omega)
      rw [this]; simp
  | _ => exact h
theorem prts_none {w : Str} (h1 : w ≠ "begin") (h2 : w ≠ "read") (h3 : w ≠ "write") (h4 : w ≠ "undo") (h5 : w ≠ "mark") (h6 : w ≠ "end") : prts partsOf w = none := by
  simp only [partsOf, prts]
  rw [if_neg (Ne.symm h1), if_neg (Ne.symm h2), if_neg (Ne.symm h3), if_neg (Ne.symm h4), if_neg (Ne.symm h5), if_neg (Ne.symm h6)]
theorem prts_pos {w : Str} {ps : List Str} (h : prts partsOf w = some ps) : 1 ≤ ps.length := by
  simp only [partsOf, prts] at h
  repeat (split at h; · cases h; decide)
  cases h
theorem rowB_str (w : Str) (d : PyData) (r : List PyData) : rowB (.tuple (.str w :: d :: r)) = (match prts partsOf w with
    | some ps => decide (r.length = ps.length) && cntB d && partsB ps r
    | none => false) := rfl
theorem rowB_two (w : Str) (d : PyData) : rowB (.tuple [.str w, d]) = false := by
  rw [rowB_str]
  cases q : prts partsOf w with
  | none => rfl
  | some ps =>
    have := prts_pos q
    have : decide (([] : List PyData).length = ps.length) = false := decide_eq_false (by simp; omega)
    simp only [this, Bool.false_and]
theorem lookD_none {w : Str} (h1 : w ≠ "begin") (h2 : w ≠ "read") (h3 : w ≠ "write") (h4 : w ≠ "undo") (h5 : w ≠ "mark") (h6 : w ≠ "end") (a b c d e f : PyData) : lookD (.str w) [(.str "begin", a), (.str "read", b), (.str "write", c), (.str "undo", d), (.str "mark", e), (.str "end", f)] = none := by
  have key : ∀ (z : Str) (v : PyData) (r : List (PyData × PyData)), w ≠ z → lookD (.str w) ((.str z, v) :: r) = lookD (.str w) r := fun z v r h => by
    show (if decide ((Sum.inr z : Key) = Sum.inr w) = true then some v else lookD (.str w) r) = _
    rw [if_neg]
    intro e
    exact h (Sum.inr.inj (of_decide_eq_true e)).symm
  rw [key _ _ _ h1, key _ _ _ h2, key _ _ _ h3, key _ _ _ h4, key _ _ _ h5, key _ _ _ h6]
  rfl
theorem partsB_word (c : PyData) : ∀ (n : Nat) (r : List PyData), r.length = n → partsB ("word" :: List.replicate n "worth") (c :: r) = (wrdB c && r.all worthB) := fun n r hr => by
  unfold partsB
  rw [List.zip_cons_cons, List.all_cons]
  have e1 : partB "word" c = wrdB c := by unfold partB; rw [if_neg (by decide), if_neg (by decide), if_neg (by decide), if_pos rfl]
  show (partB "word" c && _) = _
  rw [e1]
  congr 1
  induction n generalizing r with
  | zero => cases r <;> first | rfl | cases hr
  | succ n ih =>
    cases r with
    | nil => cases hr
    | cons y r =>
      rw [List.replicate_succ, List.zip_cons_cons, List.all_cons, List.all_cons, ih r (by simpa using hr)]
      have e2 : partB "worth" y = worthB y := by unfold partB; rw [if_neg (by decide), if_neg (by decide), if_neg (by decide), if_neg (by decide)]
      show (partB "worth" y && _) = _
      rw [e2]
theorem law_is_row_k (hs : Sm x) (h : K (.d (.bool (rowB x))) [.gone]) : kCall (G (l + 3) 20 [.d x]) K X := by
  refine kDef (d := c20) (core rfl) rfl ?_
  cases x with
  | tuple xs =>
    rcases xs with _ | ⟨a, _ | ⟨d, _ | ⟨c, r⟩⟩⟩
    · exact h
    · cases a <;> exact h
    · cases a with
      | str w => rw [rowB_two] at h; exact h
      | _ => exact h
    · cases a with
      | str w =>
        rw [rowB_str] at h
        conv => whnf
        refine kOpt_i (sub_tup 0 rfl) ?_
        conv => whnf
        refine kOpt_i (sub_tup 1 rfl) ?_
        conv => whnf
        refine law_is_number_k ?_
        conv => whnf
        refine kBool_i (fun q => KB h ?_) fun q => ?_
        · have q : (!cntB d) = true := q
          rw [Bool.not_eq_true'] at q
          rw [q]
          cases prts partsOf w <;> simp
        · have q : (!cntB d) = false := q
          rw [Bool.not_eq_false'] at q
          rw [q] at h
          conv => whnf
          refine kOpt_i (sub_tup 0 rfl) ?_
          conv => whnf
          have ec : cutD (PyData.str w :: d :: c :: r) (some 2) none = c :: r := cut_lo _ 2
          rw [ec]
          have hr : Sm c ∧ ∀ y ∈ r, Sm y := ⟨hs.item (by simp), fun y hy => hs.item (by simp [hy])⟩
          have hrl : r.length ≤ most := by have := hs.tup; simp at this; omega
          have len : ∀ n : Nat, PyData.eqv (.int n) (.int ((c :: r).length : Int)) = decide ((c :: r).length = n) := fun n => by
            rw [eqv_len]
            exact decide_eq_decide.mpr (by omega)
          by_cases w1 : w = "begin"
          · subst w1
            have hh : (match prts partsOf "begin" with
              | some ps => decide ((c :: r).length = ps.length) && true && partsB ps (c :: r)
              | none => false) = (decide ((c :: r).length = 2) && true && partsB ["role", "houses"] (c :: r)) := rfl
            rw [hh] at h
            conv => whnf
            refine kBool_i (fun q1 => KB h ?_) fun q1 => ?_
            · have q1 : (!PyData.eqv (.int (2 : Nat)) (.int ((c :: r).length : Int))) = true := q1
              rw [len, Bool.not_eq_true'] at q1
              rw [q1]; rfl
            · have q1 : (!PyData.eqv (.int (2 : Nat)) (.int ((c :: r).length : Int))) = false := q1
              rw [len, Bool.not_eq_false'] at q1
              have e1 := of_decide_eq_true q1
              rcases r with _ | ⟨y, _ | ⟨y2, r⟩⟩
              · cases e1
              · have hp : partsB ["role", "houses"] [c, y] = (anyS ["leader", "member"] c && housesB y) := by
                  show (partB "role" c && (partB "houses" y && true)) = _
                  rw [Bool.and_true]
                  unfold partB
                  rw [if_pos rfl, if_neg (by decide), if_neg (by decide), if_pos rfl]
                rw [hp, q1] at h
                cases c with
                | str z =>
                  conv => whnf
                  refine kBool_i (fun q2 => ?_) fun q2 => KB h ?_
                  · have q2 : (false != anyS ["leader", "member"] (.str z)) = true := q2
                    conv => whnf
                    refine law_are_houses_k (hr.2 y (by simp)) (KB h ?_)
                    cases q3 : anyS ["leader", "member"] (.str z) with
                    | true => simp
                    | false => rw [q3] at q2; cases q2
                  · have q2 : (false != anyS ["leader", "member"] (.str z)) = false := q2
                    cases q3 : anyS ["leader", "member"] (.str z) with
                    | true => rw [q3] at q2; cases q2
                    | false => simp
                | _ => exact h
              · simp at e1
          · by_cases w6 : w = "end"
            · subst w6
              have hh : (match prts partsOf "end" with
                | some ps => decide ((c :: r).length = ps.length) && true && partsB ps (c :: r)
                | none => false) = (decide ((c :: r).length = 1) && true && partsB ["end"] (c :: r)) := rfl
              rw [hh] at h
              conv => whnf
              refine kBool_i (fun q1 => KB h ?_) fun q1 => ?_
              · have q1 : (!PyData.eqv (.int (1 : Nat)) (.int ((c :: r).length : Int))) = true := q1
                rw [len, Bool.not_eq_true'] at q1
                rw [q1]; rfl
              · have q1 : (!PyData.eqv (.int (1 : Nat)) (.int ((c :: r).length : Int))) = false := q1
                rw [len, Bool.not_eq_false'] at q1
                have e1 := of_decide_eq_true q1
                rcases r with _ | ⟨y, r⟩
                · have hp : partsB ["end"] [c] = anyS ["kept", "dropped"] c := by
                    show (partB "end" c && true) = _
                    rw [Bool.and_true]
                    unfold partB
                    rw [if_neg (by decide), if_pos rfl]
                  rw [hp, q1] at h
                  cases c with
                  | str z =>
                    conv => whnf
                    refine KB h ?_
                    show (false != anyS ["kept", "dropped"] (.str z)) = _
                    cases anyS ["kept", "dropped"] (.str z) <;> rfl
                  | _ => exact h
                · simp at e1
            · by_cases w2 : w = "read"
              · subst w2
                have hh : (match prts partsOf "read" with
                  | some ps => decide ((c :: r).length = ps.length) && true && partsB ps (c :: r)
                  | none => false) = (decide ((c :: r).length = 1) && true && partsB ("word" :: List.replicate 0 "worth") (c :: r)) := rfl
                rw [hh] at h
                conv => whnf
                refine kBool_i (fun q1 => KB h ?_) fun q1 => ?_
                · have q1 : (!PyData.eqv (.int (1 : Nat)) (.int ((c :: r).length : Int))) = true := q1
                  rw [len, Bool.not_eq_true'] at q1
                  rw [q1]; rfl
                · have q1 : (!PyData.eqv (.int (1 : Nat)) (.int ((c :: r).length : Int))) = false := q1
                  rw [len, Bool.not_eq_false'] at q1
                  have e1 : r.length = 0 := by have := of_decide_eq_true q1; simpa using this
                  rw [q1, partsB_word c 0 r e1] at h
                  cases c with
                  | str z =>
                    conv => whnf
                    refine kOpt_i (sub_tup 0 rfl) ?_
                    conv => whnf
                    refine kOpt_i (sub_tup 0 rfl) ?_
                    conv => whnf
                    refine law_is_word_k hr.1 ?_
                    conv => whnf
                    refine kBool_i (fun q2 => ?_) fun q2 => KB h (by rw [q2]; rfl)
                    conv => whnf
                    have ec2 : cutD (PyData.str z :: r) (some 1) none = r := cut_lo _ 1
                    rw [ec2]
                    refine kLc_filter (fun d => !worthB d) (fun _ => .int 1) hrl rfl (fun d hd => ?_) ?_
                    · conv => whnf
                      refine law_is_worth_k ?_
                      conv => whnf
                      exact kBool_i (fun q => ⟨q, rfl, rfl⟩) fun q => ⟨q, rfl⟩
                    · conv => whnf
                      rw [lc_empty]
                      refine KB h ?_
                      rw [q2]
                      simp
                  | _ =>
                    conv => whnf
                    refine kOpt_i (sub_tup 0 rfl) ?_
                    exact h
              · by_cases w3 : w = "write"
                · subst w3
                  have hh : (match prts partsOf "write" with
                    | some ps => decide ((c :: r).length = ps.length) && true && partsB ps (c :: r)
                    | none => false) = (decide ((c :: r).length = 3) && true && partsB ("word" :: List.replicate 2 "worth") (c :: r)) := rfl
                  rw [hh] at h
                  conv => whnf
                  refine kBool_i (fun q1 => KB h ?_) fun q1 => ?_
                  · have q1 : (!PyData.eqv (.int (3 : Nat)) (.int ((c :: r).length : Int))) = true := q1
                    rw [len, Bool.not_eq_true'] at q1
                    rw [q1]; rfl
                  · have q1 : (!PyData.eqv (.int (3 : Nat)) (.int ((c :: r).length : Int))) = false := q1
                    rw [len, Bool.not_eq_false'] at q1
                    have e1 : r.length = 2 := by have := of_decide_eq_true q1; simpa using this
                    rw [q1, partsB_word c 2 r e1] at h
                    cases c with
                    | str z =>
                      conv => whnf
                      refine kOpt_i (sub_tup 0 rfl) ?_
                      conv => whnf
                      refine kOpt_i (sub_tup 0 rfl) ?_
                      conv => whnf
                      refine law_is_word_k hr.1 ?_
                      conv => whnf
                      refine kBool_i (fun q2 => ?_) fun q2 => KB h (by rw [q2]; rfl)
                      conv => whnf
                      have ec2 : cutD (PyData.str z :: r) (some 1) none = r := cut_lo _ 1
                      rw [ec2]
                      refine kLc_filter (fun d => !worthB d) (fun _ => .int 1) hrl rfl (fun d hd => ?_) ?_
                      · conv => whnf
                        refine law_is_worth_k ?_
                        conv => whnf
                        exact kBool_i (fun q => ⟨q, rfl, rfl⟩) fun q => ⟨q, rfl⟩
                      · conv => whnf
                        rw [lc_empty]
                        refine KB h ?_
                        rw [q2]
                        simp
                    | _ =>
                      conv => whnf
                      refine kOpt_i (sub_tup 0 rfl) ?_
                      exact h
                · by_cases w4 : w = "undo"
                  · subst w4
                    have hh : (match prts partsOf "undo" with
                      | some ps => decide ((c :: r).length = ps.length) && true && partsB ps (c :: r)
                      | none => false) = (decide ((c :: r).length = 2) && true && partsB ("word" :: List.replicate 1 "worth") (c :: r)) := rfl
                    rw [hh] at h
                    conv => whnf
                    refine kBool_i (fun q1 => KB h ?_) fun q1 => ?_
                    · have q1 : (!PyData.eqv (.int (2 : Nat)) (.int ((c :: r).length : Int))) = true := q1
                      rw [len, Bool.not_eq_true'] at q1
                      rw [q1]; rfl
                    · have q1 : (!PyData.eqv (.int (2 : Nat)) (.int ((c :: r).length : Int))) = false := q1
                      rw [len, Bool.not_eq_false'] at q1
                      have e1 : r.length = 1 := by have := of_decide_eq_true q1; simpa using this
                      rw [q1, partsB_word c 1 r e1] at h
                      cases c with
                      | str z =>
                        conv => whnf
                        refine kOpt_i (sub_tup 0 rfl) ?_
                        conv => whnf
                        refine kOpt_i (sub_tup 0 rfl) ?_
                        conv => whnf
                        refine law_is_word_k hr.1 ?_
                        conv => whnf
                        refine kBool_i (fun q2 => ?_) fun q2 => KB h (by rw [q2]; rfl)
                        conv => whnf
                        have ec2 : cutD (PyData.str z :: r) (some 1) none = r := cut_lo _ 1
                        rw [ec2]
                        refine kLc_filter (fun d => !worthB d) (fun _ => .int 1) hrl rfl (fun d hd => ?_) ?_
                        · conv => whnf
                          refine law_is_worth_k ?_
                          conv => whnf
                          exact kBool_i (fun q => ⟨q, rfl, rfl⟩) fun q => ⟨q, rfl⟩
                        · conv => whnf
                          rw [lc_empty]
                          refine KB h ?_
                          rw [q2]
                          simp
                      | _ =>
                        conv => whnf
                        refine kOpt_i (sub_tup 0 rfl) ?_
                        exact h
                  · by_cases w5 : w = "mark"
                    · subst w5
                      have hh : (match prts partsOf "mark" with
                        | some ps => decide ((c :: r).length = ps.length) && true && partsB ps (c :: r)
                        | none => false) = (decide ((c :: r).length = 1) && true && partsB ("word" :: List.replicate 0 "worth") (c :: r)) := rfl
                      rw [hh] at h
                      conv => whnf
                      refine kBool_i (fun q1 => KB h ?_) fun q1 => ?_
                      · have q1 : (!PyData.eqv (.int (1 : Nat)) (.int ((c :: r).length : Int))) = true := q1
                        rw [len, Bool.not_eq_true'] at q1
                        rw [q1]; rfl
                      · have q1 : (!PyData.eqv (.int (1 : Nat)) (.int ((c :: r).length : Int))) = false := q1
                        rw [len, Bool.not_eq_false'] at q1
                        have e1 : r.length = 0 := by have := of_decide_eq_true q1; simpa using this
                        rw [q1, partsB_word c 0 r e1] at h
                        cases c with
                        | str z =>
                          conv => whnf
                          refine kOpt_i (sub_tup 0 rfl) ?_
                          conv => whnf
                          refine kOpt_i (sub_tup 0 rfl) ?_
                          conv => whnf
                          refine law_is_word_k hr.1 ?_
                          conv => whnf
                          refine kBool_i (fun q2 => ?_) fun q2 => KB h (by rw [q2]; rfl)
                          conv => whnf
                          have ec2 : cutD (PyData.str z :: r) (some 1) none = r := cut_lo _ 1
                          rw [ec2]
                          refine kLc_filter (fun d => !worthB d) (fun _ => .int 1) hrl rfl (fun d hd => ?_) ?_
                          · conv => whnf
                            refine law_is_worth_k ?_
                            conv => whnf
                            exact kBool_i (fun q => ⟨q, rfl, rfl⟩) fun q => ⟨q, rfl⟩
                          · conv => whnf
                            rw [lc_empty]
                            refine KB h ?_
                            rw [q2]
                            simp
                        | _ =>
                          conv => whnf
                          refine kOpt_i (sub_tup 0 rfl) ?_
                          exact h
                    · rw [prts_none w1 w2 w3 w4 w5 w6] at h
                      have el : (lookD (.str w) (frzK [(.inr "begin", .leaf (.int 2)), (.inr "read", .leaf (.int 1)), (.inr "write", .leaf (.int 3)), (.inr "undo", .leaf (.int 2)), (.inr "mark", .leaf (.int 1)), (.inr "end", .leaf (.int 1))])).getD (.int 0) = .int 0 := by
                        rw [show frzK [(.inr "begin", .leaf (.int 2)), (.inr "read", .leaf (.int 1)), (.inr "write", .leaf (.int 3)), (.inr "undo", .leaf (.int 2)), (.inr "mark", .leaf (.int 1)), (.inr "end", .leaf (.int 1))] = [(.str "begin", .int 2), (.str "read", .int 1), (.str "write", .int 3), (.str "undo", .int 2), (.str "mark", .int 1), (.str "end", .int 1)] from rfl, lookD_none w1 w2 w3 w4 w5 w6]
                        rfl
                      rw [el]
                      conv => whnf
                      exact h
      | _ =>
        conv => whnf
        refine kOpt_i (sub_tup 0 rfl) ?_
        exact h
  | _ => exact h
end
end Lw
/-! Draws. -/
namespace Lw
open PySem PySem.Spec PyProof.Rows L2 Fi
section
variable {l : Nat} {x : PyData} {o : O} {many : Int} {K : U → List U → Prop} {X : Xn → List U → Prop}
theorem draw (hD : Dk o) (h0 : 0 < many) (h1 : many < 1073741824) (h : ∀ o' r, Dk o' → 0 ≤ r → r < many → K (.d (.int r)) [.o o', .gone]) : kCall (G (l + 1) 13 [.o o, .d (.int many)]) K X :=
  draw_k (a := 153) (b := 319) (core rfl) hD h0 h1 h
theorem deck {ns : List Int} (h : ∀ o, Dk o → K (.o o) [.gone]) : kCall (G (l + 1) 12 [.s ns]) K X := deck_k (m := 13752852) (a := 153) (core rfl) h
theorem flats_len : ∀ {os : List O} {xs : List PyData}, flats os = some xs → os = xs.map .leaf
  | [], xs, h => by cases h; rfl
  | o :: os, xs, h => by
    unfold flats at h
    cases o with
    | leaf y =>
      cases q : flats os with
      | none => rw [q] at h; cases h
      | some ys =>
        rw [q] at h
        cases h
        rw [flats_len q]; rfl
    | _ => cases h
theorem pick {os : List O} {xs : List PyData} (hD : Dk o) (hx : flats os = some xs) (h0 : 0 < xs.length) (h1 : xs.length < 1000) (h : ∀ o' x, Dk o' → x ∈ xs → K (.d x) [.o o', .gone]) : kCall (G (l + 2) 14 [.o o, .o (.lst os)]) K X := by
  refine kDef (d := c14) (core rfl) rfl ?_
  have e := flats_len hx
  subst e
  conv => whnf
  refine kOpt_i (len_of (xs := xs) (flats_leafs xs)) ?_
  conv => whnf
  refine draw (many := (xs.length : Int)) hD (by omega) (by omega) fun o' r hD' h2 h3 => ?_
  conv => whnf
  have hr : r.toNat < xs.length := by omega
  have e2 : atI (xs.map O.leaf) r = some (.leaf (xs[r.toNat]'hr)) := by
    rw [atI_int h2 (by simpa using h3)]
    simp
  refine kOpt_i (sub_b rfl e2) ?_
  exact h o' _ hD' (List.getElem_mem hr)
theorem pick_d {xs : List PyData} (hD : Dk o) (h0 : 0 < xs.length) (h1 : xs.length < 100000) (h : ∀ o' x, Dk o' → x ∈ xs → K (.d x) [.o o', .gone]) : kCall (G (l + 2) 14 [.o o, .d (.list xs)]) K X := by
  refine kDef (d := c14) (core rfl) rfl ?_
  conv => whnf
  refine draw (many := (xs.length : Int)) hD (by omega) (by omega) fun o' r hD' h2 h3 => ?_
  conv => whnf
  have hr : r.toNat < xs.length := by omega
  refine kOpt_i (sub_lst (atI_int h2 h3)) ?_
  exact h o' _ hD' (List.getElem_mem hr)
end
end Lw
/-! Any values, bent ones. -/
namespace Lw
open PySem PySem.Spec PyProof.Rows L2 Fi
section
variable {l : Nat} {x : PyData} {o : O} {K : U → List U → Prop} {X : Xn → List U → Prop}
theorem any_k (hD : Dk o) (h : ∀ o' y, Dk o' → conB y = true → K (.d y) [.o o']) : kCall (G (l + 3) 31 [.o o]) K X := by
  refine kDef (d := c31) (core rfl) rfl ?_
  conv => whnf
  refine pick hD rfl (by decide) (by decide) fun o' y hD' hm => ?_
  exact h o' y hD' (List.all_eq_true.mp (by decide +kernel) y hm)
theorem turned_k (hD : Dk o) (hx : Ok0 x) (h : ∀ o' y, Dk o' → Be 8 x y → K (.d y) [.o o', .gone]) : kCall (G (l + 4) 32 [.o o, .d x]) K X := by
  refine kDef (d := c32) (core rfl) rfl ?_
  conv => whnf
  refine law_is_integer_k ?_
  cases x with
  | int i =>
    conv => whnf
    have hi := hx.int
    refine kOpt_if (log_ok (Nat.lt_of_le_of_lt hi (by decide))) ?_
    conv => whnf
    refine pick hD rfl (by simp) (by simp) fun o' y hD' hm => ?_
    refine h o' y hD' ?_
    simp only [List.mem_cons, List.not_mem_nil, or_false] at hm
    rcases hm with rfl | rfl | rfl | rfl | rfl | rfl | rfl | rfl | rfl
    · exact (Be.int (by omega)).mono (by decide)
    · exact (Be.int (by omega)).mono (by decide)
    · exact (Be.int (by omega)).mono (by decide)
    · exact Be.bool.mono (by decide)
    · exact (Be.num (Nat.lt_of_le_of_lt hi (by decide))).mono (by decide)
    · exact Be.wrap.mono (by decide)
    · exact (Be.con (by decide +kernel)).mono (by decide)
    · exact (Be.con (by decide +kernel)).mono (by decide)
    · exact (Be.con (by decide +kernel)).mono (by decide)
  | str z =>
    conv => whnf
    obtain ⟨ha, hl⟩ := hx.str
    have e1 : ("a" : Str).length = 1 := by decide +kernel
    have e2 : (" " : Str).length = 1 := by decide +kernel
    refine kOpt_if (by unfold most; omega) ?_
    conv => whnf
    refine kOpt_if (by unfold most; omega) ?_
    conv => whnf
    refine kOpt_if (by unfold most; omega) ?_
    conv => whnf
    refine kOpt_if (by unfold most; omega) ?_
    conv => whnf
    refine pick hD rfl (by simp) (by simp) fun o' y hD' hm => ?_
    refine h o' y hD' ?_
    simp only [List.mem_cons, List.not_mem_nil, or_false] at hm
    rcases hm with rfl | rfl | rfl | rfl | rfl | rfl | rfl | rfl | rfl | rfl | rfl | rfl
    · exact (Be.str (fun h => h.app (.of (by decide +kernel))) (by rw [strLen_append]; omega)).mono (by decide)
    · exact (Be.str (fun h => h.cut _ _) (by have := cutS_length z (some 1) none; omega)).mono (by decide)
    · exact (Be.str (fun h => h.app (.of (by decide +kernel))) (by rw [strLen_append]; omega)).mono (by decide)
    · exact (Be.str (fun h => h.upper.1) (by rw [ha.upper.2]; omega)).mono (by decide)
    · exact (Be.con (by decide +kernel)).mono (by decide)
    · exact (Be.con (by decide +kernel)).mono (by decide)
    · exact (Be.con (by decide +kernel)).mono (by decide)
    · exact (Be.con (by decide +kernel)).mono (by decide)
    · exact (Be.con (by decide +kernel)).mono (by decide)
    · exact Be.wrap.mono (by decide)
    · exact (Be.con (by decide +kernel)).mono (by decide)
    · exact (Be.con (by decide +kernel)).mono (by decide)
  | tuple xs =>
    cases xs with
    | nil =>
      conv => whnf
      refine any_k hD fun o' y hD' hc => ?_
      exact h o' y hD' ((Be.con hc).mono (by decide))
    | cons a r =>
      have hl := hx.tup
      conv => whnf
      refine draw (many := ((a :: r).length : Int)) hD (by simp) (by omega) fun o' i hD' h2 h3 => ?_
      obtain ⟨n, rfl⟩ := Int.eq_ofNat_of_zero_le h2
      have hn : n < (a :: r).length := by omega
      generalize hxs : a :: r = xs at *
      conv => whnf
      have c1 := cut_len xs none (some (n : Int))
      have c2 := cut_len xs (some ((n : Int) + 1)) none
      have c3 := cut_len xs (some (n : Int)) (some ((n : Int) + 1))
      have c4 := cut_len xs (some (n : Int)) none
      refine kOpt_if (by unfold most; omega) ?_
      conv => whnf
      refine kOpt_if (by unfold most; omega) ?_
      conv => whnf
      refine kOpt_if (by unfold most; simp; omega) ?_
      conv => whnf
      refine kOpt_if (by unfold most; omega) ?_
      conv => whnf
      refine kOpt_if (by unfold most; simp; omega) ?_
      conv => whnf
      refine kOpt_i (sub_tupI (Fi.atI_nat (List.getElem?_eq_getElem hn))) ?_
      conv => whnf
      refine pick hD' (flats_leafs _) (by show 0 < 10; omega) (by show 10 < 1000; omega) fun o2 y hD2 hm => ?_
      refine h o2 y hD2 ?_
      rw [cut_hi, cut_lo1, cut_mid1, cut_lo] at hm
      simp only [frzL, frz, frzL_leafs, List.cons_append, List.nil_append, List.mem_cons, List.not_mem_nil, or_false] at hm
      have w1 := wtL_cut xs n
      have w2 := wtL_cut xs (n + 1)
      have w3 := wtL_cut (xs.take (n + 1)) n
      have ta : ∀ {y k}, y ∈ xs.take k → y ∈ xs := fun h => List.mem_of_mem_take h
      have dr : ∀ {y k}, y ∈ xs.drop k → y ∈ xs := fun h => List.mem_of_mem_drop h
      rcases hm with rfl | rfl | rfl | rfl | rfl | rfl | rfl | rfl | rfl | rfl
      · exact Be.lst.mono (by decide)
      · refine Be.tup (fun y hy => .inl ?_) (by rw [wtL_app]; omega)
        rcases List.mem_append.mp hy with q | q
        · exact ta q
        · exact dr q
      · refine Be.tup (fun y hy => .inl ?_) (by rw [wtL_app]; omega)
        rcases List.mem_append.mp hy with q | q
        · exact q
        · exact ta (List.mem_of_mem_drop q)
      · exact Be.tup (fun y hy => .inl (List.mem_reverse.mp hy)) (by rw [wtL_rev]; omega)
      · exact Be.wrap.mono (by decide)
      · refine Be.tup (fun y hy => ?_) (by rw [wtL_app]; show wtL xs + (70 + 2 + 0) ≤ _; omega)
        rcases List.mem_append.mp hy with q | q
        · exact .inl q
        · rw [List.mem_singleton.mp q]; exact .inr (by decide +kernel)
      · exact (Be.con (by decide +kernel)).mono (by decide)
      · refine Be.tup (fun y hy => .inl ?_) (by rw [wtL_app, wtL_app]; omega)
        rcases List.mem_append.mp hy with q | q
        · rcases List.mem_append.mp q with q | q
          · exact ta q
          · exact ta (List.mem_of_mem_drop q)
        · exact dr q
      · exact (Be.item (List.getElem_mem hn)).mono (by decide)
      · exact (Be.con (by decide +kernel)).mono (by decide)
  | none => conv => whnf
            exact any_k hD fun o' y hD' hc => h o' y hD' ((Be.con hc).mono (by decide))
  | bool b => conv => whnf
              exact any_k hD fun o' y hD' hc => h o' y hD' ((Be.con hc).mono (by decide))
  | list b => conv => whnf
              exact any_k hD fun o' y hD' hc => h o' y hD' ((Be.con hc).mono (by decide))
  | dict b => conv => whnf
              exact any_k hD fun o' y hD' hc => h o' y hD' ((Be.con hc).mono (by decide))
theorem bent_fin {d : Int} {e3 : Option U} (hD : Dk o) (hx : Ok0 x) (h : ∀ o' y, Dk o' → Be 8 x y → K (.d y) [.o o', .gone, .gone]) : kSs (Fl tb dfs (l + 4)) (.cons (.ret (.ife (.cmp .eq (.call 13 (.cons (.lt 0) (.cons (.cst (.int (5))) .nil))) (.cst (.int (0)))) (.call 31 (.cons (.lt 0) .nil)) (.call 32 (.cons (.lt 0) (.cons (.var 1) .nil))))) .nil) [some (.o o), some (.d x), some (.d (.int d)), e3] (fun e => K (.d .none) (outs c33 e)) (fun _ => False) (fun _ => False) (fun u e => kOk u (K u (outs c33 e))) (fun x e => X x (outs c33 e)) := by
  conv => whnf
  refine draw hD (by omega) (by omega) fun o' r hD' h2 h3 => ?_
  conv => whnf
  refine kBool_i (fun q => ?_) fun q => ?_
  · conv => whnf
    exact any_k hD' fun o2 y hD2 hc => h o2 y hD2 ((Be.con hc).mono (by decide))
  · conv => whnf
    exact turned_k hD' hx fun o2 y hD2 hc => h o2 y hD2 hc
theorem bent_k : ∀ (k : Nat) {l : Nat} {x : PyData} {o : O} {K : U → List U → Prop} {X : Xn → List U → Prop}, Dk o → Ok0 x → (∀ o' y, Dk o' → Be (8 + k) x y → K (.d y) [.o o', .gone, .gone]) → kCall (G (l + k + 5) 33 [.o o, .d x, .d (.int k)]) K X := by
  intro k
  induction k with
  | zero =>
    intro l x o K X hD hx h
    refine kDef (d := c33) (core rfl) rfl ?_
    cases x with
    | tuple xs =>
      cases xs with
      | nil => conv => whnf
               exact bent_fin hD hx h
      | cons a r => conv => whnf
                    exact bent_fin hD hx h
    | _ => conv => whnf
           exact bent_fin hD hx h
  | succ k ih =>
    intro l x o K X hD hx h
    refine kDef (d := c33) (core rfl) rfl ?_
    cases x with
    | tuple xs =>
      cases xs with
      | nil => conv => whnf
               exact bent_fin (l := l + (k + 1)) hD hx fun o' y h1 h2 => h o' y h1 (h2.mono (by omega))
      | cons a r =>
        conv => whnf
        refine kBool_t (by simp) ?_
        conv => whnf
        refine draw (many := 8) hD (by omega) (by omega) fun o' i hD' h2 h3 => ?_
        conv => whnf
        refine kBool_i (fun q => ?_) fun q => ?_
        · have hl := hx.tup
          conv => whnf
          refine draw (many := ((a :: r).length : Int)) hD' (by simp) (by omega) fun o2 i2 hD2 h4 h5 => ?_
          obtain ⟨n, rfl⟩ := Int.eq_ofNat_of_zero_le h4
          have hn : n < (a :: r).length := by omega
          generalize hxs : a :: r = xs at *
          conv => whnf
          refine kOpt_i (sub_tupI (Fi.atI_nat (List.getElem?_eq_getElem hn))) ?_
          conv => whnf
          rw [show (((k + 1 : Nat) : Int) - 1) = (k : Int) by omega]
          refine ih (l := l) hD2 (hx.item (List.getElem_mem hn)) fun o3 y hD3 hb => ?_
          conv => whnf
          have c1 := cut_len xs none (some (n : Int))
          have c2 := cut_len xs (some ((n : Int) + 1)) none
          refine kOpt_if (by unfold most; simp; omega) ?_
          conv => whnf
          refine kOpt_if (by unfold most; simp; omega) ?_
          rw [cut_hi, cut_lo1]
          exact h o3 _ hD3 (Be.into hn hb)
        · exact bent_fin (l := l + (k + 1)) hD' hx fun o' y h1 h2 => h o' y h1 (h2.mono (by omega))
    | _ => conv => whnf
           exact bent_fin (l := l + (k + 1)) hD hx fun o' y h1 h2 => h o' y h1 (h2.mono (by omega))
end
end Lw
/-! Rows, sectors. -/
namespace Lw
open PySem PySem.Spec PyProof.Rows L2 Fi
section
variable {l : Nat} {x : PyData} {o : O} {K : U → List U → Prop} {X : Xn → List U → Prop}
theorem key_k (hD : Dk o) (h : ∀ o' y, Dk o' → itB y = true → K (.d y) [.o o']) : kCall (G (l + 3) 25 [.o o]) K X := by
  refine kDef (d := c25) (core rfl) rfl ?_
  conv => whnf
  refine pick hD rfl (by decide) (by decide) fun o' y hD' hm => ?_
  exact h o' y hD' (List.all_eq_true.mp (by decide +kernel) y hm)
theorem itB_int {r n : Int} (h2 : 0 ≤ r) (h3 : r < n) (hn : n ≤ 1000000) : itB (.int r) = true := decide_eq_true (by omega)
theorem worth_k (hD : Dk o) (h : ∀ o' y, Dk o' → itB y = true → K (.d y) [.o o']) : kCall (G (l + 3) 26 [.o o]) K X := by
  refine kDef (d := c26) (core rfl) rfl ?_
  conv => whnf
  refine draw (many := 1000) hD (by omega) (by omega) fun o' r hD' h2 h3 => ?_
  conv => whnf
  refine pick hD' rfl (by simp) (by simp) fun o2 y hD2 hm => h o2 y hD2 ?_
  have hr := itB_int h2 h3 (by decide)
  simp only [List.mem_cons, List.not_mem_nil, or_false] at hm
  rcases hm with rfl | rfl | rfl | rfl | rfl | rfl | rfl | rfl | rfl <;> first | exact hr | decide +kernel
theorem deal_k (hD : Dk o) (h : ∀ o' y, Dk o' → itB y = true → K (.d y) [.o o']) : kCall (G (l + 3) 27 [.o o]) K X := by
  refine kDef (d := c27) (core rfl) rfl ?_
  conv => whnf
  refine draw (many := 100) hD (by omega) (by omega) fun o' r hD' h2 h3 => ?_
  conv => whnf
  refine pick hD' rfl (by simp) (by simp) fun o2 y hD2 hm => h o2 y hD2 ?_
  have hr := itB_int h2 h3 (by decide)
  simp only [List.mem_cons, List.not_mem_nil, or_false] at hm
  rcases hm with rfl | rfl | rfl | rfl | rfl | rfl | rfl <;> first | exact hr | decide +kernel
set_option maxHeartbeats 0 in
theorem row_k (hD : Dk o) (h : ∀ o' y its, Dk o' → RowOk y its → K (.d y) [.o o']) : kCall (G (l + 4) 28 [.o o]) K X := by
  refine kDef (d := c28) (core rfl) rfl ?_
  conv => whnf
  refine draw (many := 8) hD (by omega) (by omega) fun o1 r hD1 h2 h3 => ?_
  conv => whnf
  refine deal_k hD1 fun o2 d hD2 hd => ?_
  conv => whnf
  refine kBool_i (fun q => ?_) fun q => ?_
  · conv => whnf
    refine pick hD2 rfl (by simp) (by simp) fun o3 a hD3 hm => ?_
    have ha : itB a = true := List.all_eq_true.mp (by decide +kernel) a hm
    conv => whnf
    refine pick_d hD3 (by decide) (by decide) fun o4 b hD4 hm => ?_
    have hb : itB b = true := List.all_eq_true.mp (by decide +kernel) b hm
    refine h o4 _ _ hD4 ⟨rfl, by simp, ?_⟩
    simp only [List.all_cons, hd, ha, hb]
    decide +kernel
  · conv => whnf
    refine kBool_i (fun q => ?_) fun q => ?_
    · conv => whnf
      refine key_k hD2 fun o3 a hD3 ha => ?_
      refine h o3 _ _ hD3 ⟨rfl, by simp, ?_⟩
      simp only [List.all_cons, hd, ha]
      decide +kernel
    · conv => whnf
      refine kBool_i (fun q => ?_) fun q => ?_
      · conv => whnf
        refine key_k hD2 fun o3 a hD3 ha => ?_
        conv => whnf
        refine worth_k hD3 fun o4 b hD4 hb => ?_
        conv => whnf
        refine worth_k hD4 fun o5 c hD5 hc => ?_
        refine h o5 _ _ hD5 ⟨rfl, by simp, ?_⟩
        simp only [List.all_cons, hd, ha, hb, hc]
        decide +kernel
      · conv => whnf
        refine kBool_i (fun q => ?_) fun q => ?_
        · conv => whnf
          refine key_k hD2 fun o3 a hD3 ha => ?_
          conv => whnf
          refine worth_k hD3 fun o4 b hD4 hb => ?_
          refine h o4 _ _ hD4 ⟨rfl, by simp, ?_⟩
          simp only [List.all_cons, hd, ha, hb]
          decide +kernel
        · conv => whnf
          refine kBool_i (fun q => ?_) fun q => ?_
          · conv => whnf
            refine pick hD2 rfl (by simp) (by simp) fun o3 a hD3 hm => ?_
            have ha : itB a = true := List.all_eq_true.mp (by decide +kernel) a hm
            refine h o3 _ _ hD3 ⟨rfl, by simp, ?_⟩
            simp only [List.all_cons, hd, ha]
            decide +kernel
          · conv => whnf
            refine pick hD2 rfl (by simp) (by simp) fun o3 a hD3 hm => ?_
            have ha : itB a = true := List.all_eq_true.mp (by decide +kernel) a hm
            refine h o3 _ _ hD3 ⟨rfl, by simp, ?_⟩
            simp only [List.all_cons, hd, ha]
            decide +kernel
end
end Lw
/-! Texts of rows, sectors. -/
namespace Lw
open PySem PySem.Spec PyProof.Rows L2 Fi
section
variable {l : Nat} {x : PyData} {o : O} {K : U → List U → Prop} {X : Xn → List U → Prop}
theorem small_ints : ∀ {xs : List PyData}, (xs.all fun x => match x with
      | .int i => decide (i.natAbs ≤ 10)
      | _ => false) = true → ∃ is : List Int, xs = is.map .int ∧ ∀ i ∈ is, i.natAbs ≤ 10
  | [], _ => ⟨[], rfl, by simp⟩
  | x :: xs, h2 => by
    rw [List.all_cons, Bool.and_eq_true] at h2
    obtain ⟨is, rfl, h3⟩ := small_ints h2.2
    cases x with
    | int i => exact ⟨i :: is, rfl, by
        intro j hj
        rcases List.mem_cons.mp hj with q | q
        · rw [q]; exact of_decide_eq_true h2.1
        · exact h3 j q⟩
    | _ => cases h2.1
theorem item_text_k (hx : itB x = true) (h : ∀ z : Str, SA z → z.length ≤ 52 → K (.d (.str z)) [.gone]) : kCall (G (l + 1) 21 [.d x]) K X := by
  refine kDef (d := c21) (core rfl) rfl ?_
  cases x with
  | none => exact h "-" (.of (by decide +kernel)) (by decide +kernel)
  | int i =>
    have hi := of_decide_eq_true (show decide (i.natAbs ≤ 10000000000) = true from hx)
    conv => whnf
    refine kOpt_if (log_ok (Nat.lt_of_le_of_lt hi (by decide))) ?_
    exact h _ (int_sa i) (by have := int_len11 (i := i) (Nat.lt_of_le_of_lt hi (by decide)); omega)
  | str z =>
    have hx : (decide (z.length ≤ 12) && z.cps.toList.all fun c => decide (c < 128)) = true := hx
    rw [Bool.and_eq_true, decide_eq_true_eq] at hx
    exact h z (.of hx.2) (by omega)
  | tuple xs =>
    have hx : (decide (xs.length ≤ 4) && xs.all fun x => match x with
      | .int i => decide (i.natAbs ≤ 10)
      | _ => false) = true := hx
    rw [Bool.and_eq_true, decide_eq_true_eq] at hx
    have hi := small_ints hx.2
    obtain ⟨is, rfl, hi⟩ := hi
    have hl : is.length ≤ 4 := by simpa using hx.1
    conv => whnf
    refine kLc_map (fun d => match d with | .int i => .str (Str.ofString (toString i)) | d => d) (by simp; unfold most; omega) rfl (fun d hd => ?_) ?_
    · obtain ⟨i, hm, rfl⟩ := List.mem_map.mp hd
      conv => whnf
      refine kOpt_if (log_ok (Nat.lt_of_le_of_lt (hi i hm) (by decide))) ?_
      exact ⟨rfl, rfl⟩
    · rw [List.map_map]
      have e : (is.map ((fun d => match d with | .int i => .str (Str.ofString (toString i)) | d => d) ∘ PyData.int)) = (is.map fun i => Str.ofString (toString i)).map PyData.str := by rw [List.map_map]; rfl
      rw [e]
      have hz : ∀ z ∈ is.map fun i => Str.ofString (toString i), SA z ∧ z.length ≤ 12 := fun z hz => by
        obtain ⟨i, hm, rfl⟩ := List.mem_map.mp hz
        exact ⟨int_sa i, int_len11 (Nat.lt_of_le_of_lt (hi i hm) (by decide))⟩
      conv => whnf
      refine kOpt_i (join_nl (joinLen_le (n := 12) (m := 4) (fun z h => (hz z h).2) (by simpa using hl) (by decide +kernel) (by decide))) ?_
      have := tjoin_len (sep := ",") fun z h => (hz z h).2
      have e1 : ("," : Str).length = 1 := by decide +kernel
      rw [e1, List.length_map] at this
      exact h _ (SA.tjoin (.of (by decide +kernel)) fun z h => (hz z h).1) (by omega)
  | _ => cases hx
theorem row_text_k {its : List PyData} (hx : RowOk x its) (h : ∀ z : Str, SA z → z.length ≤ 265 → K (.d (.str z)) [.gone]) : kCall (G (l + 2) 22 [.d x]) K X := by
  refine kDef (d := c22) (core rfl) rfl ?_
  obtain ⟨rfl, hl, hi⟩ := hx
  conv => whnf
  refine kLc_inv (fun acc rest e1 => e1 = [some (.d (.tuple its)), none, none] ∧ (∀ d ∈ rest, itB d = true) ∧ ∃ zs : List Str, acc = zs.map .str ∧ (∀ z ∈ zs, SA z ∧ z.length ≤ 52) ∧ zs.length + rest.length = its.length) (by unfold most; omega) ⟨rfl, fun d hd => List.all_eq_true.mp hi d hd, [], rfl, by simp, by simp⟩ ?_ ?_
  · rintro d ds acc e1 ⟨rfl, h1, zs, rfl, h3, h4⟩
    conv => whnf
    refine item_text_k (h1 d List.mem_cons_self) fun z ha hz => ?_
    refine ⟨.str z, rfl, rfl, fun y hy => h1 y (List.mem_cons_of_mem _ hy), zs ++ [z], by simp, fun y hy => ?_, by simp at h4 ⊢; omega⟩
    rcases List.mem_append.mp hy with q | q
    · exact h3 y q
    · rw [List.mem_singleton.mp q]; exact ⟨ha, hz⟩
  · rintro acc e1 ⟨rfl, h1, zs, rfl, h3, h4⟩
    have hl2 : zs.length ≤ 5 := by simp at h4; omega
    conv => whnf
    refine kOpt_i (join_nl (joinLen_le (n := 52) (m := 5) (fun z h => (h3 z h).2) hl2 (by decide +kernel) (by decide))) ?_
    have := tjoin_len (sep := " ") fun z h => (h3 z h).2
    have e1 : (" " : Str).length = 1 := by decide +kernel
    rw [e1] at this
    exact h _ (SA.tjoin (.of (by decide +kernel)) fun z h => (h3 z h).1) (by omega)
/-- sectors and such -/
structure Sec (n : Nat) (z : Str) : Prop where
  a : SA z
  l : z.length ≤ n
theorem sectors_k {its : List PyData} (hx : RowOk x its) (h : ∀ ss : List Str, (∀ s ∈ ss, Sec 12 s) → ss.length ≤ 25 → K (.d (.tuple (ss.map .str))) [.gone]) : kCall (G (l + 3) 23 [.d x]) K X := by
  refine kDef (d := c23) (core rfl) rfl ?_
  conv => whnf
  refine row_text_k hx fun z ha hz => ?_
  conv => whnf
  refine kWhl_inv (fun m e => ∃ (z : Str) (ss : List Str), e = [some (.d x), some (.d (.str z)), some (.o (.lst ((ss.map PyData.str).map .leaf)))] ∧ SA z ∧ z.length = m ∧ (∀ s ∈ ss, Sec 12 s) ∧ ss.length * 11 + z.length ≤ 265) z.length (by unfold wfuel; omega) ⟨z, [], rfl, ha, rfl, by simp, by simpa using hz⟩ ?_
  rintro m e1 ⟨z, ss, rfl, ha, rfl, hs, hl⟩
  have e1 : ("+" : Str).length = 1 := by decide +kernel
  have e2 : ("." : Str).length = 1 := by decide +kernel
  have e3 : (" " : Str).length = 1 := by decide +kernel
  have hsl : (ss.map PyData.str).length < most := by simp; unfold most; omega
  conv => whnf
  refine kOpt_i (len_str (by unfold most; omega)) ?_
  conv => whnf
  refine kBool_i (fun q => ?_) fun q => ?_
  · have q : 11 < z.length := by simp at q; omega
    have c1 : (cutS z none (some 11)).length = 11 := by have := cutS_hi z 11; rw [Nat.min_eq_left (by omega)] at this; exact this
    have c2 : (cutS z (some 11) none).length = z.length - 11 := cutS_lo z 11
    conv => whnf
    refine kOpt_if (by unfold most; omega) ?_
    conv => whnf
    refine kOpt_if (by rw [c1]; unfold most; omega) ?_
    conv => whnf
    refine kOpt_i (app_strs hsl) ?_
    conv => whnf
    refine kOpt_if (by unfold most; omega) ?_
    refine ⟨(cutS z (some 11) none).length, by omega, cutS z (some 11) none, ss ++ ["+" ++ cutS z none (some 11)], by simp only [List.map_append]; rfl, ha.cut _ _, rfl, fun s hs' => ?_, by rw [List.length_append, c2]; simp; omega⟩
    rcases List.mem_append.mp hs' with q | q
    · exact hs s q
    · rw [List.mem_singleton.mp q]
      exact ⟨SA.app (.of (by decide +kernel)) (ha.cut _ _), by rw [strLen_append, c1, e1]; omega⟩
  · have q : z.length ≤ 11 := by simp at q; omega
    conv => whnf
    refine kOpt_if (by unfold most; omega) ?_
    conv => whnf
    refine kOpt_i (len_str (by unfold most; omega)) ?_
    conv => whnf
    refine kOpt_if (by rw [e3]; unfold most; omega) ?_
    conv => whnf
    have er : (repS (11 - (z.length : Int)).toNat " ").length = 11 - z.length := by rw [repS_len, e3]; omega
    refine kOpt_if (by rw [strLen_append, er, e2]; unfold most; omega) ?_
    conv => whnf
    refine kOpt_i (app_strs hsl) ?_
    conv => whnf
    refine kOpt_i (v := .d (.tuple (ss.map PyData.str ++ [PyData.str (("." ++ z) ++ repS (11 - (z.length : Int)).toNat " ")]))) ?_ ?_
    · show (flats ((ss.map PyData.str ++ [PyData.str (("." ++ z) ++ repS (11 - (z.length : Int)).toNat " ")]).map O.leaf)).map (fun xs => U.d (.tuple xs)) = _
      rw [flats_leafs]; rfl
    have := h (ss ++ [("." ++ z) ++ repS (11 - (z.length : Int)).toNat " "]) (fun s hs' => ?_) (by simp; omega)
    · rw [List.map_append] at this; exact this
    · rcases List.mem_append.mp hs' with q | q
      · exact hs s q
      · rw [List.mem_singleton.mp q]
        exact ⟨((SA.of (by decide +kernel)).app ha).app (SA.rep (.of (by decide +kernel)) _), by rw [strLen_append, strLen_append, er, e2]; omega⟩
theorem rows_k (hD : Dk o) (h : ∀ o' rs, Dk o' → (∀ r ∈ rs, ∃ its, RowOk r its) → rs.length ≤ 4 → K (nl rs) [.o o', .gone]) : kCall (G (l + 5) 29 [.o o, .d (.int 4)]) K X := by
  refine kDef (d := c29) (core rfl) rfl ?_
  conv => whnf
  refine draw (many := 5) hD (by omega) (by omega) fun o1 r hD1 h2 h3 => ?_
  conv => whnf
  refine ⟨by unfold big; omega, ?_⟩
  conv => whnf
  refine kLc_inv (fun acc rest e1 => (∃ o, Dk o ∧ e1 = [some (.o o), some (.d (.int 4)), none, none]) ∧ (∀ r ∈ acc, ∃ its, RowOk r its) ∧ acc.length + rest.length ≤ 4) (by simp [rngL]; unfold most; omega) ⟨⟨o1, hD1, rfl⟩, by simp, by simp [rngL]; omega⟩ ?_ ?_
  · rintro d ds acc e1 ⟨⟨o2, hD2, rfl⟩, h4, h5⟩
    conv => whnf
    refine row_k hD2 fun o3 y its hD3 hy => ?_
    refine ⟨y, rfl, ⟨o3, hD3, rfl⟩, fun r hr => ?_, by simp at h5 ⊢; omega⟩
    rcases List.mem_append.mp hr with q | q
    · exact h4 r q
    · rw [List.mem_singleton.mp q]; exact ⟨its, hy⟩
  · rintro acc e1 ⟨⟨o2, hD2, rfl⟩, h4, h5⟩
    exact h o2 acc hD2 h4 (by simpa using h5)
theorem all_sectors_k {rs : List PyData} (hr : ∀ r ∈ rs, ∃ its, RowOk r its) (hl : rs.length ≤ 4) (h : ∀ ss : List Str, (∀ s ∈ ss, Sec 12 s) → ss.length ≤ 100 → K (.d (.tuple (ss.map .str))) [.gone]) : kCall (G (l + 4) 30 [nl rs]) K X := by
  refine kDef (d := c30) (core rfl) rfl ?_
  conv => whnf
  rw [frzL_leafs]
  refine kFor_inv (fun rest e => (∃ (ss : List Str) (z0 : Option U) (u0 : U), e = [some u0, some (.d (.tuple (ss.map .str))), z0] ∧ (∀ s ∈ ss, Sec 12 s) ∧ ss.length + 25 * rest.length ≤ 100) ∧ ∀ r ∈ rest, ∃ its, RowOk r its) ⟨⟨[], none, _, rfl, by simp, by simp only [List.length_nil]; omega⟩, hr⟩ ?_ ?_
  · rintro d ds e ⟨⟨ss, z0, u0, rfl, h1, h2⟩, h3⟩
    obtain ⟨its, hi⟩ := h3 d List.mem_cons_self
    simp only [List.length_cons] at h2
    conv => whnf
    refine sectors_k hi fun ss2 h4 h5 => ?_
    conv => whnf
    refine kOpt_if (by simp only [List.length_map]; unfold most; omega) ?_
    refine ⟨⟨ss ++ ss2, _, _, by rw [List.map_append], fun s hs => ?_, by rw [List.length_append]; omega⟩, fun r hr => h3 r (List.mem_cons_of_mem _ hr)⟩
    rcases List.mem_append.mp hs with q | q
    · exact h1 s q
    · exact h4 s q
  · rintro e ⟨⟨ss, z0, u0, rfl, h1, h2⟩, h3⟩
    exact h ss h1 (by simpa using h2)
end
end Lw
/-! Garbled sectors; the law's look at devices. -/
namespace Lw
open PySem PySem.Spec PyProof.Rows L2 Fi
section
variable {l : Nat} {x : PyData} {o : O} {K : U → List U → Prop} {X : Xn → List U → Prop}
/-- a text that is not long -/
def St (r : Nat) (y : PyData) : Prop := ∃ s, y = .str s ∧ SA s ∧ s.length + r ≤ 14
theorem St.mono {r r' : Nat} {y : PyData} (h : St r y) (hr : r' ≤ r) : St r' y := by
  obtain ⟨s, e, a, b⟩ := h
  exact ⟨s, e, a, by omega⟩
def s12B : PyData → Bool
  | .str z => decide (z.length ≤ 12) && z.cps.toList.all fun c => decide (c < 128)
  | _ => false
theorem St.of {y : PyData} {r : Nat} (h : s12B y = true) (hr : r ≤ 2) : St r y := by
  cases y with
  | str z =>
    have h : (decide (z.length ≤ 12) && z.cps.toList.all fun c => decide (c < 128)) = true := h
    rw [Bool.and_eq_true, decide_eq_true_eq] at h
    exact ⟨z, rfl, .of h.2, by omega⟩
  | _ => cases h
theorem lookD_str (z k : Str) (v : PyData) (r : List (PyData × PyData)) : lookD (.str z) ((.str k, v) :: r) = if k = z then some v else lookD (.str z) r := by
  show (if decide ((Sum.inr k : Key) = Sum.inr z) = true then some v else lookD (.str z) r) = _
  by_cases h : k = z
  · rw [if_pos h, if_pos (by rw [h]; simp)]
  · rw [if_neg h, if_neg (fun e => h (Sum.inr.inj (of_decide_eq_true e)))]
theorem get_pm (z : Str) : ∃ t : Str, (lookD (.str z) [(.str "+", .str "."), (.str ".", .str "+")]).getD (.str "+") = .str t ∧ SA t ∧ t.length = 1 := by
  rw [lookD_str, lookD_str]
  split
  · exact ⟨".", rfl, .of (by decide +kernel), by decide +kernel⟩
  · split
    · exact ⟨"+", rfl, .of (by decide +kernel), by decide +kernel⟩
    · exact ⟨"+", rfl, .of (by decide +kernel), by decide +kernel⟩
theorem sub_str0 {e : Fi.Env} {s : Str} (hl : s.length ≤ most) (h : s ≠ "") : ∃ c, subU e (.d (.str s)) (.d (.int 0)) = some (.d (.str ⟨#[c]⟩)) := by
  cases q : s.cps.toList with
  | nil =>
    refine absurd ?_ h
    obtain ⟨a⟩ := s
    have : a = #[] := by simpa using q
    subst this
    decide +kernel
  | cons c cs =>
    refine ⟨c, ?_⟩
    show (if s.length ≤ most then (atI s.cps.toList 0).map fun c => U.d (.str ⟨#[c]⟩) else none) = _
    rw [if_pos hl, q]
    show (atI (c :: cs) ((0 : Nat) : Int)).map _ = _
    rw [Fi.atI_nat (y := c) rfl]; rfl
theorem kOpt_u {α : Type} {o : Option α} {K : α → Prop} (v : α) (h : o = some v) (k : K v) : kOpt o K := by rw [h]; exact k
theorem garbled_k {zs : List PyData} (hD : Dk o) (hz : ∀ z ∈ zs, St 2 z) (hl : zs.length ≤ 100) (h : ∀ o' ws, Dk o' → (∀ z ∈ ws, St 0 z) → ws.length ≤ 102 → K (.d (.tuple ws)) [.o o', .gone]) : kCall (G (l + 3) 34 [.o o, .d (.tuple zs)]) K X := by
  refine kDef (d := c34) (core rfl) rfl ?_
  conv => whnf
  refine pick hD rfl (by decide) (by decide) fun o1 y hD1 hm => ?_
  have hy : ∃ n : Nat, y = .int n ∧ n ≤ 2 := by
    simp only [List.mem_cons, List.not_mem_nil, or_false] at hm
    rcases hm with rfl | rfl | rfl | rfl
    · exact ⟨1, rfl, by omega⟩
    · exact ⟨0, rfl, by omega⟩
    · exact ⟨1, rfl, by omega⟩
    · exact ⟨2, rfl, by omega⟩
  obtain ⟨n, rfl, hn⟩ := hy
  conv => whnf
  refine ⟨by unfold big; omega, ?_⟩
  have er : (rngL 0 (n : Int).toNat).length ≤ 2 := by simp [rngL]; omega
  refine kFor_inv (fun rest e => ∃ (o : O) (ws : List PyData) (z3 z4 z5 z6 : Option U) (u1 : U), e = [some (.o o), some u1, some (.o (.lst (ws.map .leaf))), z3, z4, z5, z6] ∧ Dk o ∧ (∀ z ∈ ws, St rest.length z) ∧ ws.length + rest.length ≤ 102 ∧ rest.length ≤ 2) ⟨o1, zs, none, none, none, none, _, rfl, hD1, fun z h => (hz z h).mono (by omega), by omega, er⟩ ?_ ?_
  · rintro d ds e ⟨o2, ws, z3, z4, z5, z6, u1, rfl, hD2, h1, h2, h2r⟩
    simp only [List.length_cons] at h1 h2 h2r
    have hle : ∀ {z}, z ∈ ws → St ds.length z := fun h => (h1 _ h).mono (by omega)
    conv => whnf
    refine kOpt_i (nlen_of rfl) ?_
    conv => whnf
    refine draw (many := (ws.length : Int) + 1) hD2 (by omega) (by omega) fun o3 i hD3 h3 h4 => ?_
    obtain ⟨a, rfl⟩ := Int.eq_ofNat_of_zero_le h3
    conv => whnf
    refine draw (many := 7) hD3 (by omega) (by omega) fun o4 w hD4 h5 h6 => ?_
    conv => whnf
    refine kOpt_i (nlen_of rfl) ?_
    conv => whnf
    have insG : ∀ {o' : O} {y : PyData} {z3 z4 z5 z6 : Option U}, Dk o' → St ds.length y → ∃ (o : O) (ws' : List PyData) (z3' z4' z5' z6' : Option U) (u1' : U), [some (U.o o'), some u1, some (U.o (.lst ((ws.take a ++ y :: ws.drop a).map .leaf))), z3, z4, z5, z6] = [some (.o o), some u1', some (.o (.lst (ws'.map .leaf))), z3', z4', z5', z6'] ∧ Dk o ∧ (∀ z ∈ ws', St ds.length z) ∧ ws'.length + ds.length ≤ 102 ∧ ds.length ≤ 2 := fun {o' y z3 z4 z5 z6} hD' hy => ⟨o', ws.take a ++ y :: ws.drop a, z3, z4, z5, z6, u1, rfl, hD', fun z hz => by
      rcases List.mem_append.mp hz with q | q
      · exact hle (List.mem_of_mem_take q)
      · rcases List.mem_cons.mp q with q | q
        · rw [q]; exact hy
        · exact hle (List.mem_of_mem_drop q), by
      simp only [List.length_append, List.length_take, List.length_cons, List.length_drop]
      omega, by omega⟩
    have setG : ∀ {o' : O} {ws2 : List PyData} {z3 z4 z5 z6 : Option U}, Dk o' → (∀ z ∈ ws2, St ds.length z) → ws2.length ≤ ws.length → ∃ (o : O) (ws' : List PyData) (z3' z4' z5' z6' : Option U) (u1' : U), [some (U.o o'), some u1, some (U.o (.lst (ws2.map .leaf))), z3, z4, z5, z6] = [some (.o o), some u1', some (.o (.lst (ws'.map .leaf))), z3', z4', z5', z6'] ∧ Dk o ∧ (∀ z ∈ ws', St ds.length z) ∧ ws'.length + ds.length ≤ 102 ∧ ds.length ≤ 2 := fun {o' ws2 z3 z4 z5 z6} hD' hy hl => ⟨o', ws2, z3, z4, z5, z6, u1, rfl, hD', hy, by omega, by omega⟩
    have setM : ∀ {y : PyData} {ws2 : List PyData} {k : Nat}, (∀ z ∈ ws2, St ds.length z) → St ds.length y → ∀ z ∈ ws2.set k y, St ds.length z := fun h1 h2 z hz => by
      rcases List.mem_or_eq_of_mem_set hz with q | q
      · exact h1 z q
      · rw [q]; exact h2
    have hml : ws.length < most := by unfold most; omega
    refine kBool_i (fun q => ?_) fun q => ?_
    · conv => whnf
      refine pick hD4 rfl (by simp) (by simp) fun o5 y hD5 hm => ?_
      have hy : s12B y = true := List.all_eq_true.mp (by decide +kernel) y hm
      conv => whnf
      refine kOpt_i (ins_l (by omega) hml) ?_
      exact insG hD5 (.of hy (by omega))
    · have hne : a < ws.length := by
        have q : PyData.eqv (.int (a : Nat)) (.int (ws.length : Nat)) = false := q
        rw [eqv_len] at q
        have := of_decide_eq_false q
        omega
      obtain ⟨s, es, hsa, hsl⟩ := h1 _ (List.getElem_mem hne)
      have hsub : ∀ {e : Fi.Env}, ownAt e 2 = some (.lst (ws.map .leaf)) → subU e (.b 2) (.d (.int a)) = some (.d (.str s)) := fun h => by rw [sub_l h hne, es]
      have hsm : s.length ≤ most := by unfold most; omega
      conv => whnf
      refine kBool_i (fun q => ?_) fun q => ?_
      · conv => whnf
        refine pick hD4 rfl (by simp) (by simp) fun o5 y hD5 hm => ?_
        have hy : s12B y = true := List.all_eq_true.mp (by decide +kernel) y hm
        conv => whnf
        refine kOpt_i (ins_l (by omega) hml) ?_
        exact insG hD5 (.of hy (by omega))
      · conv => whnf
        refine kBool_i (fun q => ?_) fun q => ?_
        · conv => whnf
          refine kOpt_i (st_l hne) ?_
          exact setG hD4 (setM (fun z h => hle h) (.of (by decide +kernel) (by omega))) (by simp)
        · conv => whnf
          refine kBool_i (fun q => ?_) fun q => ?_
          · conv => whnf
            refine kOpt_i (popAt_l hne (by omega)) ?_
            exact setG hD4 (fun z h => hle (List.mem_of_mem_eraseIdx h)) (by rw [List.length_eraseIdx]; split <;> omega)
          · conv => whnf
            refine kBool_i (fun q => ?_) fun q => ?_
            · have w3 : w = 3 := by rw [eqv_int] at q; exact of_decide_eq_true q
              subst w3
              conv => whnf
              refine kOpt_i (nlen_of rfl) ?_
              conv => whnf
              refine kBool_i (fun q2 => ?_) fun q2 => ?_
              · have q2 : a + 1 < ws.length := by have := of_decide_eq_true (show decide ((a : Int) + 1 < (ws.length : Int)) = true from q2); omega
                conv => whnf
                refine kOpt_i (sub_l (n := a + 1) rfl q2) ?_
                conv => whnf
                refine kOpt_i (hsub rfl) ?_
                conv => whnf
                refine ⟨rfl, ?_⟩
                conv => whnf
                refine kOpt_i (st_l hne) ?_
                conv => whnf
                refine kOpt_i (st_l (n := a + 1) (by rw [List.length_set]; exact q2)) ?_
                exact setG hD4 (setM (setM (fun z h => hle h) (hle (List.getElem_mem q2))) ⟨s, rfl, hsa, by omega⟩) (by simp)
              · conv => whnf
                refine kOpt_i (hsub rfl) ?_
                conv => whnf
                refine kOpt_i (ins_l (by omega) hml) ?_
                exact insG hD4 ⟨s, rfl, hsa, by omega⟩
            · conv => whnf
              refine kBool_i (fun q => ?_) fun q => ?_
              · have w4 : w = 4 := by rw [eqv_int] at q; exact of_decide_eq_true q
                subst w4
                conv => whnf
                refine kOpt_i (hsub rfl) ?_
                conv => whnf
                refine kBool_i (fun q2 => ?_) fun q2 => ?_
                · conv => whnf
                  refine draw (many := 12) hD4 (by omega) (by omega) fun o5 i hD5 h7 h8 => ?_
                  obtain ⟨sp, rfl⟩ := Int.eq_ofNat_of_zero_le h7
                  conv => whnf
                  refine kOpt_i (hsub rfl) ?_
                  conv => whnf
                  refine kOpt_if hsm ?_
                  conv => whnf
                  refine pick hD5 rfl (by decide) (by decide) fun o6 y hD6 hm => ?_
                  have hy : ∃ t : Str, y = .str t ∧ SA t ∧ t.length = 1 := by
                    simp only [List.mem_cons, List.not_mem_nil, or_false] at hm
                    rcases hm with rfl | rfl | rfl | rfl | rfl | rfl <;> exact ⟨_, rfl, .of (by decide +kernel), by decide +kernel⟩
                  obtain ⟨t, rfl, ht, htl⟩ := hy
                  have c1 := cutS_hi s sp
                  have c2 := cutS_lo s (sp + 1)
                  conv => whnf
                  refine kOpt_if (by rw [c1]; unfold most; omega) ?_
                  conv => whnf
                  refine kOpt_i (hsub rfl) ?_
                  conv => whnf
                  refine kOpt_if hsm ?_
                  conv => whnf
                  refine kOpt_if (by rw [strLen_append, c1]; have := cutS_length s (some ((sp : Int) + 1)) none; unfold most; omega) ?_
                  conv => whnf
                  refine kOpt_i (st_l hne) ?_
                  refine setG hD6 (setM (fun z h => hle h) ⟨_, rfl, ((hsa.cut _ _).app ht).app (hsa.cut _ _), ?_⟩) (by simp)
                  rw [strLen_append, strLen_append, c1, show (cutS s (some ((sp : Int) + 1)) none).length = s.length - (sp + 1) from c2]
                  omega
                · conv => whnf
                  refine kOpt_i (hsub rfl) ?_
                  conv => whnf
                  refine kOpt_i (ins_l (by omega) hml) ?_
                  exact insG hD4 ⟨s, rfl, hsa, by omega⟩
              · conv => whnf
                refine kBool_i (fun q => ?_) fun q => ?_
                · have w5 : w = 5 := by rw [eqv_int] at q; exact of_decide_eq_true q
                  subst w5
                  conv => whnf
                  refine kOpt_i (hsub rfl) ?_
                  conv => whnf
                  refine kBool_i (fun q2 => ?_) fun q2 => ?_
                  · have hs0 : s ≠ "" := by intro e; rw [e] at q2; revert q2; decide +kernel
                    obtain ⟨c0, hc0⟩ := sub_str0 (e := [some (U.o o4), some u1, some (U.o (O.lst (List.map O.leaf ws))), some (U.d d), some (U.d (PyData.int a)), some (U.d (PyData.int 5)), z6]) hsm hs0
                    conv => whnf
                    refine kOpt_i (hsub rfl) ?_
                    conv => whnf
                    refine kOpt_i hc0 ?_
                    obtain ⟨t, e1, ht, htl⟩ := get_pm ⟨#[c0]⟩
                    conv => whnf
                    have e2 : (lookD (.str ⟨#[c0]⟩) (frzK [(.inr "+", .leaf (.str ".")), (.inr ".", .leaf (.str "+"))])).getD (.str "+") = .str t := e1
                    refine kOpt_i (hsub rfl) ?_
                    conv => whnf
                    refine kOpt_if hsm ?_
                    conv => whnf
                    rw [e2]
                    conv => whnf
                    have c2 := cutS_lo s 1
                    refine kOpt_if (by have := cutS_length s (some 1) none; unfold most; omega) ?_
                    conv => whnf
                    refine kOpt_i (st_l hne) ?_
                    have hpos : 1 ≤ s.length := by
                      cases q3 : s.cps.toList with
                      | nil =>
                        refine absurd ?_ hs0
                        obtain ⟨b⟩ := s
                        have : b = #[] := by simpa using q3
                        subst this
                        decide +kernel
                      | cons b bs => unfold Str.length; rw [← Array.length_toList, q3]; simp
                    refine setG hD4 (setM (fun z h => hle h) ⟨_, rfl, ht.app (hsa.cut _ _), ?_⟩) (by simp)
                    rw [strLen_append, htl, show (cutS s (some 1) none).length = s.length - 1 from c2]
                    omega
                  · conv => whnf
                    refine kOpt_i (hsub rfl) ?_
                    conv => whnf
                    refine kOpt_i (ins_l (by omega) hml) ?_
                    exact insG hD4 ⟨s, rfl, hsa, by omega⟩
                · conv => whnf
                  refine kOpt_i (hsub rfl) ?_
                  conv => whnf
                  refine kOpt_i (ins_l (by omega) hml) ?_
                  exact insG hD4 ⟨s, rfl, hsa, by omega⟩
  · rintro e ⟨o2, ws, z3, z4, z5, z6, u1, rfl, hD2, h1, h2, h2r⟩
    conv => whnf
    refine kOpt_i (v := .d (.tuple ws)) ?_ ?_
    · show (flats (ws.map O.leaf)).map (fun xs => U.d (.tuple xs)) = _
      rw [flats_leafs]; rfl
    · exact h o2 ws hD2 h1 (by simpa using h2)
end
end Lw
/-! The law. -/
namespace Lw
open PySem PySem.Spec PyProof.Rows L2 Fi
section
variable {l : Nat} {x : PyData} {o : O} {K : U → List U → Prop} {X : Xn → List U → Prop}
theorem devB_t (xs : List PyData) (i : Int) : devB (.tuple [.tuple xs, .int i]) = (xs.all secB && (decide (0 ≤ i) && decide (i ≤ xs.length)) && !(xs.take i.toNat).any fun x => isS "" x) := rfl
theorem devB_no {a b : PyData} (h : cntB b = false) : devB (.tuple [a, b]) = false := by
  cases a with
  | tuple xs =>
    cases b with
    | int i =>
      have h : decide (0 ≤ i) = false := h
      rw [devB_t, h]; simp
    | _ => rfl
  | _ => rfl
theorem law_is_device_k (hs : Sm x) (h : K (.d (.bool (devB x))) [.gone]) : kCall (G (l + 3) 24 [.d x]) K X := by
  refine kDef (d := c24) (core rfl) rfl ?_
  cases x with
  | tuple xs =>
    rcases xs with _ | ⟨a, _ | ⟨b, _ | ⟨c, r⟩⟩⟩
    · exact h
    · cases a <;> exact h
    · cases a with
      | tuple xs =>
        have hx : Sm (.tuple xs) := hs.item (by simp)
        conv => whnf
        refine law_is_number_k ?_
        conv => whnf
        refine kBool_i (fun q => KB h ?_) fun q => ?_
        · have q : (!cntB b) = true := q
          rw [Bool.not_eq_true'] at q
          rw [devB_no q]
        · have q : (!cntB b) = false := q
          rw [Bool.not_eq_false'] at q
          cases b with
          | int i =>
            have q : decide (0 ≤ i) = true := q
            have hi := of_decide_eq_true q
            rw [devB_t, q] at h
            conv => whnf
            refine kLc_filter (fun d => !secB d) (fun _ => .int 1) hx.tup rfl (fun d hd => ?_) ?_
            · have hsd := hx.item hd
              cases d with
              | str z =>
                conv => whnf
                refine kOpt_i (len_str hsd.str) ?_
                conv => whnf
                have e : (true != (([.int 0, .int 12] : List PyData).any fun y => PyData.eqv y (.int z.length))) = !secB (.str z) := by
                  have := in_0_12 z.length
                  show _ = !(decide (z.length = 0) || decide (z.length = 12))
                  rw [← this]
                  cases (([.int 0, .int 12] : List PyData).any fun y => PyData.eqv y (.int z.length)) <;> rfl
                refine kBool_i (fun q => ⟨?_, rfl, rfl⟩) fun q => ⟨?_, rfl⟩
                · rw [← e]; exact q
                · rw [← e]; exact q
              | _ => exact ⟨rfl, rfl, rfl⟩
            · conv => whnf
              rw [lc_empty]
              refine kBool_i (fun q3 => KB h ?_) fun q3 => ?_
              · have q3 : (!xs.all fun d => !!secB d) = true := q3
                have : xs.all secB = false := by simpa using q3
                rw [this]; rfl
              · have q3 : (!xs.all fun d => !!secB d) = false := q3
                have q3 : xs.all secB = true := by simpa using q3
                rw [q3] at h
                conv => whnf
                refine kBool_i (fun q4 => KB h ?_) fun q4 => ?_
                · have q4 := of_decide_eq_true (show decide ((xs.length : Int) < i) = true from q4)
                  have : decide (i ≤ (xs.length : Int)) = false := decide_eq_false (by omega)
                  rw [this]; simp
                · have q4 := of_decide_eq_false (show decide ((xs.length : Int) < i) = false from q4)
                  have : decide (i ≤ (xs.length : Int)) = true := decide_eq_true (by omega)
                  rw [this] at h
                  obtain ⟨zs, rfl⟩ := allS_sec q3
                  conv => whnf
                  have ec : cutD (zs.map PyData.str) none (some i) = (zs.take i.toNat).map .str := by
                    have := cut_hi (zs.map PyData.str) i.toNat
                    rw [Int.toNat_of_nonneg hi] at this
                    rw [this, List.map_take]
                  rw [ec]
                  refine kOpt_i (nin_strs (zs.take i.toNat)) (KB h ?_)
                  rw [← List.map_take, List.any_map]
                  show (!(zs.take i.toNat).any fun z => decide (("" : Str) = z)) = (true && (true && true) && !(zs.take i.toNat).any fun z => decide (z = ""))
                  have : (fun z : Str => decide (("" : Str) = z)) = fun z : Str => decide (z = ("" : Str)) := funext fun z => decide_eq_decide.mpr ⟨fun e => e.symm, fun e => e.symm⟩
                  rw [this]; rfl
          | _ => cases q
      | _ => exact h
    · cases a <;> cases b <;> exact h
  | _ => exact h
end
end Lw
/-! The law. -/
namespace Lw
open PySem PySem.Spec PyProof.Rows L2 Fi
theorem sh3 {d : PyData} {b c : Bool} (h : Sh d) (hw : Sm d) : Sh (.list [.bool b, .bool c, .str d.shown]) := by
  obtain ⟨h1, h2⟩ := h.shown hw
  refine ⟨?_, ?_⟩
  · rw [Vd.lstI]
    refine ⟨by omega, fun y hy => ?_⟩
    simp only [List.mem_cons, List.not_mem_nil, or_false] at hy
    rcases hy with rfl | rfl | rfl
    · trivial
    · trivial
    · exact h1
  · show 3 + (5 + 2 + (5 + 2 + (wt (.str d.shown) + 2 + 0))) ≤ 1000000
    omega
theorem st_wt : ∀ {zs : List PyData}, (∀ z ∈ zs, St 0 z) → wtL zs ≤ zs.length * 144 := fun {zs} h => by
  have : wtL zs ≤ zs.length * (142 + 2) := wtL_le fun z hz => by
    obtain ⟨s, rfl, _, hl⟩ := h z hz
    show 10 * s.length + 2 ≤ 142
    omega
  omega
theorem dev_ok {zs : List PyData} {y : PyData} (h : ∀ z ∈ zs, St 0 z) (hl : zs.length ≤ 102) (hy : Vd (10 ^ 45) y 24) (hw : wt y ≤ 100) : Vd (10 ^ 45) (.tuple [.tuple zs, y]) 25 ∧ wt (.tuple [.tuple zs, y]) ≤ 15000 := by
  refine ⟨?_, ?_⟩
  · rw [Vd.tupI]
    refine ⟨by omega, fun w hw => ?_⟩
    simp only [List.mem_cons, List.not_mem_nil, or_false] at hw
    rcases hw with rfl | rfl
    · rw [Vd.tupI]
      refine ⟨by omega, fun v hv => ?_⟩
      obtain ⟨s, rfl, ha, _⟩ := h v hv
      unfold Vd
      exact ha
    · exact hy
  · have := st_wt h
    show 3 + ((3 + wtL zs) + 2 + (wt y + 2 + 0)) ≤ 15000
    omega
section
variable {l : Nat} {x : PyData} {o : O} {K : U → List U → Prop} {X : Xn → List U → Prop}
set_option maxHeartbeats 0 in
theorem law_k {ns : List Int} : kCall (G (l + 10) 35 [.s ns]) (fun u _ => u = .d (.bool true)) (fun _ _ => False) := by
  refine kDef (d := c35) (core rfl) rfl ?_
  conv => whnf
  refine deck fun o1 hD1 => ?_
  conv => whnf
  refine ⟨by unfold big; omega, ?_⟩
  refine kFor_inv (fun rest e => ∃ (o : O) (z2 z3 z4 z5 z6 z7 z8 : Option U), e = [some (.s ns), some (.o o), z2, z3, z4, z5, z6, z7, z8] ∧ Dk o) ⟨o1, none, none, none, none, none, none, none, rfl, hD1⟩ ?_ ?_
  · rintro d ds e ⟨o, z2, z3, z4, z5, z6, z7, z8, rfl, hD⟩
    conv => whnf
    refine row_k hD fun o2 y its hD2 hy => ?_
    obtain ⟨hyv, hyw⟩ := hy.ok0
    have hyo : Ok0 y := ⟨Vd.mono (by decide) y (by omega) hyv, by omega⟩
    conv => whnf
    refine bent_k (l := l + 1) 3 hD2 hyo fun o3 y2 hD3 hb2 => ?_
    have hy2 : Ok0 y2 := hb2.ok hyv (by omega)
    conv => whnf
    refine bent_k (l := l + 1) 3 hD3 hyo fun o4 y3 hD4 hb3 => ?_
    have hy3 : Ok0 y3 := hb3.ok hyv (by omega)
    conv => whnf
    refine bent_k (l := l + 1) 3 hD4 hy3 fun o5 y4 hD5 hb4 => ?_
    conv => whnf
    refine any_k hD5 fun o6 y5 hD6 hc => ?_
    conv => whnf
    refine kFor_inv (fun rest e => (∀ d ∈ rest, Sh d ∧ Sm d) ∧ ∃ (o : O) (z2 z3 z4 z5 z6 z7 z8 : Option U), e = [some (.s ns), some (.o o), z2, z3, z4, z5, z6, z7, z8] ∧ Dk o) ⟨fun d hd => ?_, o6, _, _, _, _, _, _, _, rfl, hD6⟩ ?_ ?_
    · simp only [List.mem_cons, List.not_mem_nil, or_false] at hd
      rcases hd with rfl | rfl | rfl | rfl
      · exact ⟨hyo.sh, hyo.sm⟩
      · exact ⟨hy2.sh, hy2.sm⟩
      · exact ⟨hb4.sh hy3, hb4.Sm hy3.w⟩
      · exact conB_sh hc
    · rintro d ds e ⟨h1, o, z2, z3, z4, z5, z6, z7, z8, rfl, hD⟩
      obtain ⟨hs, hm⟩ := h1 d List.mem_cons_self
      conv => whnf
      refine law_is_row_k hm ?_
      conv => whnf
      refine kOpt_i (repr_ok rfl hs) ?_
      conv => whnf
      refine is_log_row_k hm ?_
      conv => whnf
      refine is_log_row_k hm ?_
      conv => whnf
      refine kOpt_i (repr_ok rfl hs) ?_
      conv => whnf
      refine kOpt_i (repr_ok (x := .list [.bool (rowB d), .bool (rowB d), .str d.shown]) rfl (sh3 hs hm)) ?_
      conv => whnf
      refine kOpt_i (repr_ok (x := .list [.bool (rowB d), .bool (rowB d), .str d.shown]) rfl (sh3 hs hm)) ?_
      conv => whnf
      refine kBool_f (by simp) ?_
      exact ⟨fun d hd => h1 d (List.mem_cons_of_mem _ hd), o, _, _, _, _, _, _, _, rfl, hD⟩
    · rintro e ⟨h1, o, z2, z3, z4, z5, z6, z7, z8, rfl, hD⟩
      exact ⟨o, _, _, _, _, _, _, _, rfl, hD⟩
  · rintro e ⟨o, z2, z3, z4, z5, z6, z7, z8, rfl, hD⟩
    conv => whnf
    refine ⟨by unfold big; omega, ?_⟩
    refine kFor_inv (fun rest e => ∃ (o : O) (z2 z3 z4 z5 z6 z7 z8 : Option U), e = [some (.s ns), some (.o o), z2, z3, z4, z5, z6, z7, z8] ∧ Dk o) ⟨o, _, _, _, _, _, _, _, rfl, hD⟩ ?_ ?_
    · rintro d ds e ⟨o, z2, z3, z4, z5, z6, z7, z8, rfl, hD⟩
      conv => whnf
      refine rows_k hD fun o2 rs hD2 hr hl => ?_
      conv => whnf
      refine all_sectors_k hr hl fun ss hs hl2 => ?_
      conv => whnf
      refine garbled_k hD2 (fun z hz => ?_) (by simpa using hl2) fun o3 ws hD3 hw hwl => ?_
      · obtain ⟨s, hm, rfl⟩ := List.mem_map.mp hz
        exact ⟨s, rfl, (hs s hm).a, by have := (hs s hm).l; omega⟩
      conv => whnf
      refine draw (many := (ws.length : Int) + 2) hD3 (by omega) (by omega) fun o4 r hD4 h1 h2 => ?_
      conv => whnf
      refine pick hD4 rfl (by simp) (by simp) fun o5 sf hD5 hm => ?_
      have hsf : Vd (10 ^ 45) sf 24 ∧ wt sf ≤ 100 := by
        simp only [List.mem_cons, List.not_mem_nil, or_false] at hm
        have vi : ∀ i : Int, i.natAbs ≤ 1000 → Vd (10 ^ 45) (.int i) 24 ∧ wt (.int i) ≤ 100 := fun i hi => ⟨Nat.le_trans hi (by decide), by show 70 ≤ 100; omega⟩
        rcases hm with rfl | rfl | rfl | rfl | rfl | rfl
        · exact vi _ (by decide)
        · exact vi _ (by omega)
        · exact vi _ (by omega)
        · exact vi _ (by omega)
        · exact vi _ (by decide)
        · exact ⟨trivial, by decide⟩
      have h0 : Vd (10 ^ 45) (.int 0) 24 ∧ wt (.int 0) ≤ 100 := ⟨by show (0 : Int).natAbs ≤ _; decide, by show 70 ≤ 100; omega⟩
      obtain ⟨hyv, hyw⟩ := dev_ok hw hwl hsf.1 hsf.2
      obtain ⟨hzv, hzw⟩ := dev_ok hw hwl h0.1 h0.2
      have hyo : Ok0 (.tuple [.tuple ws, sf]) := ⟨Vd.mono (by decide) _ (by omega) hyv, by omega⟩
      have hzo : Ok0 (.tuple [.tuple ws, .int 0]) := ⟨Vd.mono (by decide) _ (by omega) hzv, by omega⟩
      conv => whnf
      refine bent_k (l := l + 1) 3 hD5 hyo fun o6 y2 hD6 hb2 => ?_
      conv => whnf
      refine bent_k (l := l + 1) 3 hD6 hzo fun o7 y3 hD7 hb3 => ?_
      conv => whnf
      refine kFor_inv (fun rest e => (∀ d ∈ rest, Sh d ∧ Sm d) ∧ ∃ (o : O) (z2 z3 z4 z5 z6 z7 z8 : Option U), e = [some (.s ns), some (.o o), z2, z3, z4, z5, z6, z7, z8] ∧ Dk o) ⟨fun d hd => ?_, o7, _, _, _, _, _, _, _, rfl, hD7⟩ ?_ ?_
      · simp only [List.mem_cons, List.not_mem_nil, or_false] at hd
        rcases hd with rfl | rfl | rfl
        · exact ⟨hyo.sh, hyo.sm⟩
        · exact ⟨hb2.sh hyo, hb2.Sm hyo.w⟩
        · exact ⟨hb3.sh hzo, hb3.Sm hzo.w⟩
      · rintro d ds e ⟨h1, o, z2, z3, z4, z5, z6, z7, z8, rfl, hD⟩
        obtain ⟨hs, hm⟩ := h1 d List.mem_cons_self
        conv => whnf
        refine law_is_device_k hm ?_
        conv => whnf
        refine kOpt_i (repr_ok rfl hs) ?_
        conv => whnf
        refine is_device_k hm ?_
        conv => whnf
        refine is_device_k hm ?_
        conv => whnf
        refine kOpt_i (repr_ok rfl hs) ?_
        conv => whnf
        refine kOpt_i (repr_ok (x := .list [.bool (devB d), .bool (devB d), .str d.shown]) rfl (sh3 hs hm)) ?_
        conv => whnf
        refine kOpt_i (repr_ok (x := .list [.bool (devB d), .bool (devB d), .str d.shown]) rfl (sh3 hs hm)) ?_
        conv => whnf
        refine kBool_f (by simp) ?_
        exact ⟨fun d hd => h1 d (List.mem_cons_of_mem _ hd), o, _, _, _, _, _, _, _, rfl, hD⟩
      · rintro e ⟨h1, o, z2, z3, z4, z5, z6, z7, z8, rfl, hD⟩
        exact ⟨o, _, _, _, _, _, _, _, rfl, hD⟩
    · rintro e ⟨o, z2, z3, z4, z5, z6, z7, z8, rfl, hD⟩
      exact rfl
end
theorem law_true (ns : List Int) : ∃ os, Fl tb dfs 30 35 [.s ns] = .ok (.d (.bool true)) os := kCall_ok (X := fun _ _ => False) (law_k (l := 20))
end Lw
/-! The head. -/
namespace Lw
open PySem PySem.Spec PyProof.Rows L2 Fi
def hfa : List He.Fa := ([.glo "is_integer", .glo "is_integer_in", .glo "is_count", .glo "is_word", .glo "is_tuple_of", .glo "has_row_form", .glo "has_worth_form", .glo "has_part_form", .glo "has_houses_form", .glo "is_log_row", .glo "is_device", .glo "is_sector", .glo "_law_deck", .glo "_law_draw", .glo "_law_pick", .glo "_law_is_integer", .glo "_law_is_number", .glo "_law_is_word", .glo "_law_is_worth", .glo "_law_are_houses", .glo "_law_is_row", .glo "_law_item_text", .glo "_law_row_text", .glo "_law_sectors", .glo "_law_is_device"] : List He.Fa) ++ ([.glo "_law_key", .glo "_law_worth", .glo "_law_deal", .glo "_law_row", .glo "_law_rows", .glo "_law_all_sectors", .glo "_law_any", .glo "_law_turned_part", .glo "_law_bent", .glo "_law_garbled", .glo "law", .free "isinstance", .free "int", .free "bool", .free "str", .free "tuple", .free "list", .free "dict", .free "set", .free "len", .free "all", .free "any", .free "sum", .free "max", .free "min"] : List He.Fa) ++ ([.free "repr", .free "range", .free "zip", .free "enumerate", .free "sorted", .glo "ROW_PARTS"] : List He.Fa)
def hfn : List He.DefD := ([mkD "is_integer" (top 3), mkD "is_integer_in" (top 4), mkD "is_count" (top 5), mkD "is_word" (top 6), mkD "is_tuple_of" (top 7), mkD "has_row_form" (top 14), mkD "has_worth_form" (top 15), mkD "has_part_form" (top 16), mkD "has_houses_form" (top 17), mkD "is_log_row" (top 20), mkD "is_device" (top 21), mkD "is_sector" (top 22), mkD "_law_deck" (top 24), mkD "_law_draw" (top 25), mkD "_law_pick" (top 26), mkD "_law_is_integer" (top 27), mkD "_law_is_number" (top 28), mkD "_law_is_word" (top 29), mkD "_law_is_worth" (top 30), mkD "_law_are_houses" (top 31), mkD "_law_is_row" (top 32), mkD "_law_item_text" (top 33), mkD "_law_row_text" (top 34), mkD "_law_sectors" (top 35), mkD "_law_is_device" (top 36)] : List He.DefD) ++ ([mkD "_law_key" (top 37), mkD "_law_worth" (top 38), mkD "_law_deal" (top 39), mkD "_law_row" (top 40), mkD "_law_rows" (top 41), mkD "_law_all_sectors" (top 42), mkD "_law_any" (top 43), mkD "_law_turned_part" (top 44), mkD "_law_bent" (top 45), mkD "_law_garbled" (top 46), mkD "law" (top 47)] : List He.DefD)
def hts : List He.Tab := [(fun K => He.ga K "ROW_PARTS", ["begin", "read", "write", "undo", "mark", "end"])]
def hexq (K : PySem.W.Frag) : List Bool := [sysB K, tb.cst.all (cstG K), valsC K (He.ga K "ROW_PARTS") [("begin", .tuple [.str "role", .str "houses"]), ("read", .tuple [.str "word"]), ("write", .tuple [.str "word", .str "worth", .str "worth"]), ("undo", .tuple [.str "word", .str "worth"]), ("mark", .tuple [.str "word"]), ("end", .tuple [.str "end"])]]
def hex (K : PySem.W.Frag) : Bool := (hexq K).all id
abbrev R : PySem.W.OpenRow := PySem.W.OpenLaw.row PySem.Challenge.rw_allshelves_k47_any_values_as_rows_and_de
def ob (s : PySem.W.SharedT) : FiB := obsB 6 hfa hfn hts hex (HandSHeadRun.getT s)
theorem ob_eq (s : PySem.W.SharedT) : ob s = (hookB 6 hfa hfn hts hex).obs s.abs := obsB_eq (HandSHeadRun.getT_eq s)
def loose : List PySem.Str := (["__name__", "ALPHABET", "LONGEST_WORD", "is_integer", "is_integer_in", "is_count", "is_word", "is_tuple_of", "ROLES", "ROW_ENDS", "FEWEST_HOUSES", "MOST_HOUSES", "ROW_PARTS", "has_row_form", "has_worth_form", "has_part_form", "has_houses_form", "SECTOR_SIZE", "is_log_row", "is_device", "is_sector", "_law_deck", "_law_draw", "_law_pick", "_law_is_integer", "_law_is_number", "_law_is_word", "_law_is_worth", "_law_are_houses", "_law_is_row"] : List PySem.Str) ++ (["_law_item_text", "_law_row_text", "_law_sectors", "_law_is_device", "_law_key", "_law_worth", "_law_deal", "_law_row", "_law_rows", "_law_all_sectors", "_law_any", "_law_turned_part", "_law_bent", "_law_garbled"] : List PySem.Str)
set_option maxHeartbeats 0 in
theorem run (w : World) : HandSHeadRun.RunEq R (PySem.W.view R.prog [47]) (hookB 6 hfa hfn hts hex) ob 8000 loose w := by
  refine PySem.W.byRow2 "special-get-raises" (P := fun w => HandSHeadRun.RunEq R (PySem.W.view R.prog [47]) (hookB 6 hfa hfn hts hex) ob 8000 loose w) (fun w => ?_) (fun w => ?_) w
  · intro os
    kernel_rfl
  · intro os
    kernel_rfl
def hnm : List Str := (["is_integer", "is_integer_in", "is_count", "is_word", "is_tuple_of", "has_row_form", "has_worth_form", "has_part_form", "has_houses_form", "is_log_row", "is_device", "is_sector", "_law_deck", "_law_draw", "_law_pick", "_law_is_integer", "_law_is_number", "_law_is_word", "_law_is_worth", "_law_are_houses", "_law_is_row", "_law_item_text", "_law_row_text", "_law_sectors", "_law_is_device", "_law_key", "_law_worth", "_law_deal", "_law_row", "_law_rows"] : List Str) ++ (["_law_all_sectors", "_law_any", "_law_turned_part", "_law_bent", "_law_garbled", "law"] : List Str)
def ffa (K : PySem.W.Frag) (g : Nat) : Addr := He.ga K (hnm.getD g "")
theorem bd0 : ∀ (kV doc pm : Value) (an : Option Addr) (cdv ct : Value) (us : List Value), us.length = (["thing"] : List Str).length → bindArgs (PySem.W.fnOf "is_integer" "is_integer" (defArgs (top 3)) (defBody (top 3)) (defScope (top 3)) .none kV doc pm an cdv ct) ⟨us, []⟩ = pure ((["thing"] : List Str).zip us) := fun _ _ _ _ _ _ us hl => match us, hl with | [_], _ => rfl
theorem sc0 : FnScope ["thing"] ["thing"] (defScope (top 3)) := ⟨rfl, rfl, rfl, by decide +kernel, rfl, by decide +kernel, by decide +kernel⟩
theorem bd1 : ∀ (kV doc pm : Value) (an : Option Addr) (cdv ct : Value) (us : List Value), us.length = (["thing", "low", "high"] : List Str).length → bindArgs (PySem.W.fnOf "is_integer_in" "is_integer_in" (defArgs (top 4)) (defBody (top 4)) (defScope (top 4)) .none kV doc pm an cdv ct) ⟨us, []⟩ = pure ((["thing", "low", "high"] : List Str).zip us) := fun _ _ _ _ _ _ us hl => match us, hl with | [_, _, _], _ => rfl
theorem sc1 : FnScope ["thing", "low", "high"] ["thing", "low", "high"] (defScope (top 4)) := ⟨rfl, rfl, rfl, by decide +kernel, rfl, by decide +kernel, by decide +kernel⟩
theorem bd2 : ∀ (kV doc pm : Value) (an : Option Addr) (cdv ct : Value) (us : List Value), us.length = (["thing"] : List Str).length → bindArgs (PySem.W.fnOf "is_count" "is_count" (defArgs (top 5)) (defBody (top 5)) (defScope (top 5)) .none kV doc pm an cdv ct) ⟨us, []⟩ = pure ((["thing"] : List Str).zip us) := fun _ _ _ _ _ _ us hl => match us, hl with | [_], _ => rfl
theorem sc2 : FnScope ["thing"] ["thing"] (defScope (top 5)) := ⟨rfl, rfl, rfl, by decide +kernel, rfl, by decide +kernel, by decide +kernel⟩
theorem bd3 : ∀ (kV doc pm : Value) (an : Option Addr) (cdv ct : Value) (us : List Value), us.length = (["thing"] : List Str).length → bindArgs (PySem.W.fnOf "is_word" "is_word" (defArgs (top 6)) (defBody (top 6)) (defScope (top 6)) .none kV doc pm an cdv ct) ⟨us, []⟩ = pure ((["thing"] : List Str).zip us) := fun _ _ _ _ _ _ us hl => match us, hl with | [_], _ => rfl
theorem sc3 : FnScope ["thing", ".0", "letter"] ["thing"] (defScope (top 6)) := ⟨rfl, rfl, rfl, by decide +kernel, rfl, by decide +kernel, by decide +kernel⟩
theorem bd4 : ∀ (kV doc pm : Value) (an : Option Addr) (cdv ct : Value) (us : List Value), us.length = (["thing", "many"] : List Str).length → bindArgs (PySem.W.fnOf "is_tuple_of" "is_tuple_of" (defArgs (top 7)) (defBody (top 7)) (defScope (top 7)) .none kV doc pm an cdv ct) ⟨us, []⟩ = pure ((["thing", "many"] : List Str).zip us) := fun _ _ _ _ _ _ us hl => match us, hl with | [_, _], _ => rfl
theorem sc4 : FnScope ["thing", "many"] ["thing", "many"] (defScope (top 7)) := ⟨rfl, rfl, rfl, by decide +kernel, rfl, by decide +kernel, by decide +kernel⟩
theorem bd5 : ∀ (kV doc pm : Value) (an : Option Addr) (cdv ct : Value) (us : List Value), us.length = (["thing"] : List Str).length → bindArgs (PySem.W.fnOf "has_row_form" "has_row_form" (defArgs (top 14)) (defBody (top 14)) (defScope (top 14)) .none kV doc pm an cdv ct) ⟨us, []⟩ = pure ((["thing"] : List Str).zip us) := fun _ _ _ _ _ _ us hl => match us, hl with | [_], _ => rfl
theorem sc5 : FnScope ["thing", "parts", ".0", "part", "item"] ["thing"] (defScope (top 14)) := ⟨rfl, rfl, rfl, by decide +kernel, rfl, by decide +kernel, by decide +kernel⟩
theorem bd6 : ∀ (kV doc pm : Value) (an : Option Addr) (cdv ct : Value) (us : List Value), us.length = (["thing"] : List Str).length → bindArgs (PySem.W.fnOf "has_worth_form" "has_worth_form" (defArgs (top 15)) (defBody (top 15)) (defScope (top 15)) .none kV doc pm an cdv ct) ⟨us, []⟩ = pure ((["thing"] : List Str).zip us) := fun _ _ _ _ _ _ us hl => match us, hl with | [_], _ => rfl
theorem sc6 : FnScope ["thing"] ["thing"] (defScope (top 15)) := ⟨rfl, rfl, rfl, by decide +kernel, rfl, by decide +kernel, by decide +kernel⟩
theorem bd7 : ∀ (kV doc pm : Value) (an : Option Addr) (cdv ct : Value) (us : List Value), us.length = (["part", "thing"] : List Str).length → bindArgs (PySem.W.fnOf "has_part_form" "has_part_form" (defArgs (top 16)) (defBody (top 16)) (defScope (top 16)) .none kV doc pm an cdv ct) ⟨us, []⟩ = pure ((["part", "thing"] : List Str).zip us) := fun _ _ _ _ _ _ us hl => match us, hl with | [_, _], _ => rfl
theorem sc7 : FnScope ["part", "thing"] ["part", "thing"] (defScope (top 16)) := ⟨rfl, rfl, rfl, by decide +kernel, rfl, by decide +kernel, by decide +kernel⟩
theorem bd8 : ∀ (kV doc pm : Value) (an : Option Addr) (cdv ct : Value) (us : List Value), us.length = (["thing"] : List Str).length → bindArgs (PySem.W.fnOf "has_houses_form" "has_houses_form" (defArgs (top 17)) (defBody (top 17)) (defScope (top 17)) .none kV doc pm an cdv ct) ⟨us, []⟩ = pure ((["thing"] : List Str).zip us) := fun _ _ _ _ _ _ us hl => match us, hl with | [_], _ => rfl
theorem sc8 : FnScope ["thing", ".0", "house"] ["thing"] (defScope (top 17)) := ⟨rfl, rfl, rfl, by decide +kernel, rfl, by decide +kernel, by decide +kernel⟩
theorem bd9 : ∀ (kV doc pm : Value) (an : Option Addr) (cdv ct : Value) (us : List Value), us.length = (["thing"] : List Str).length → bindArgs (PySem.W.fnOf "is_log_row" "is_log_row" (defArgs (top 20)) (defBody (top 20)) (defScope (top 20)) .none kV doc pm an cdv ct) ⟨us, []⟩ = pure ((["thing"] : List Str).zip us) := fun _ _ _ _ _ _ us hl => match us, hl with | [_], _ => rfl
theorem sc9 : FnScope ["thing"] ["thing"] (defScope (top 20)) := ⟨rfl, rfl, rfl, by decide +kernel, rfl, by decide +kernel, by decide +kernel⟩
theorem bd10 : ∀ (kV doc pm : Value) (an : Option Addr) (cdv ct : Value) (us : List Value), us.length = (["thing"] : List Str).length → bindArgs (PySem.W.fnOf "is_device" "is_device" (defArgs (top 21)) (defBody (top 21)) (defScope (top 21)) .none kV doc pm an cdv ct) ⟨us, []⟩ = pure ((["thing"] : List Str).zip us) := fun _ _ _ _ _ _ us hl => match us, hl with | [_], _ => rfl
theorem sc10 : FnScope ["thing", "sectors", "safe", ".0", "sector"] ["thing"] (defScope (top 21)) := ⟨rfl, rfl, rfl, by decide +kernel, rfl, by decide +kernel, by decide +kernel⟩
theorem bd11 : ∀ (kV doc pm : Value) (an : Option Addr) (cdv ct : Value) (us : List Value), us.length = (["thing"] : List Str).length → bindArgs (PySem.W.fnOf "is_sector" "is_sector" (defArgs (top 22)) (defBody (top 22)) (defScope (top 22)) .none kV doc pm an cdv ct) ⟨us, []⟩ = pure ((["thing"] : List Str).zip us) := fun _ _ _ _ _ _ us hl => match us, hl with | [_], _ => rfl
theorem sc11 : FnScope ["thing"] ["thing"] (defScope (top 22)) := ⟨rfl, rfl, rfl, by decide +kernel, rfl, by decide +kernel, by decide +kernel⟩
theorem bd12 : ∀ (kV doc pm : Value) (an : Option Addr) (cdv ct : Value) (us : List Value), us.length = (["_law_script"] : List Str).length → bindArgs (PySem.W.fnOf "_law_deck" "_law_deck" (defArgs (top 24)) (defBody (top 24)) (defScope (top 24)) .none kV doc pm an cdv ct) ⟨us, []⟩ = pure ((["_law_script"] : List Str).zip us) := fun _ _ _ _ _ _ us hl => match us, hl with | [_], _ => rfl
theorem sc12 : FnScope ["_law_script", "_law_mixed", "_law_cell"] ["_law_script"] (defScope (top 24)) := ⟨rfl, rfl, rfl, by decide +kernel, rfl, by decide +kernel, by decide +kernel⟩
theorem bd13 : ∀ (kV doc pm : Value) (an : Option Addr) (cdv ct : Value) (us : List Value), us.length = (["_law_deck_here", "_law_many"] : List Str).length → bindArgs (PySem.W.fnOf "_law_draw" "_law_draw" (defArgs (top 25)) (defBody (top 25)) (defScope (top 25)) .none kV doc pm an cdv ct) ⟨us, []⟩ = pure ((["_law_deck_here", "_law_many"] : List Str).zip us) := fun _ _ _ _ _ _ us hl => match us, hl with | [_, _], _ => rfl
theorem sc13 : FnScope ["_law_deck_here", "_law_many", "_law_number", "_law_cell"] ["_law_deck_here", "_law_many"] (defScope (top 25)) := ⟨rfl, rfl, rfl, by decide +kernel, rfl, by decide +kernel, by decide +kernel⟩
theorem bd14 : ∀ (kV doc pm : Value) (an : Option Addr) (cdv ct : Value) (us : List Value), us.length = (["_law_deck_here", "_law_some"] : List Str).length → bindArgs (PySem.W.fnOf "_law_pick" "_law_pick" (defArgs (top 26)) (defBody (top 26)) (defScope (top 26)) .none kV doc pm an cdv ct) ⟨us, []⟩ = pure ((["_law_deck_here", "_law_some"] : List Str).zip us) := fun _ _ _ _ _ _ us hl => match us, hl with | [_, _], _ => rfl
theorem sc14 : FnScope ["_law_deck_here", "_law_some"] ["_law_deck_here", "_law_some"] (defScope (top 26)) := ⟨rfl, rfl, rfl, by decide +kernel, rfl, by decide +kernel, by decide +kernel⟩
theorem bd15 : ∀ (kV doc pm : Value) (an : Option Addr) (cdv ct : Value) (us : List Value), us.length = (["_law_thing"] : List Str).length → bindArgs (PySem.W.fnOf "_law_is_integer" "_law_is_integer" (defArgs (top 27)) (defBody (top 27)) (defScope (top 27)) .none kV doc pm an cdv ct) ⟨us, []⟩ = pure ((["_law_thing"] : List Str).zip us) := fun _ _ _ _ _ _ us hl => match us, hl with | [_], _ => rfl
theorem sc15 : FnScope ["_law_thing"] ["_law_thing"] (defScope (top 27)) := ⟨rfl, rfl, rfl, by decide +kernel, rfl, by decide +kernel, by decide +kernel⟩
theorem bd16 : ∀ (kV doc pm : Value) (an : Option Addr) (cdv ct : Value) (us : List Value), us.length = (["_law_thing"] : List Str).length → bindArgs (PySem.W.fnOf "_law_is_number" "_law_is_number" (defArgs (top 28)) (defBody (top 28)) (defScope (top 28)) .none kV doc pm an cdv ct) ⟨us, []⟩ = pure ((["_law_thing"] : List Str).zip us) := fun _ _ _ _ _ _ us hl => match us, hl with | [_], _ => rfl
theorem sc16 : FnScope ["_law_thing"] ["_law_thing"] (defScope (top 28)) := ⟨rfl, rfl, rfl, by decide +kernel, rfl, by decide +kernel, by decide +kernel⟩
theorem bd17 : ∀ (kV doc pm : Value) (an : Option Addr) (cdv ct : Value) (us : List Value), us.length = (["_law_thing"] : List Str).length → bindArgs (PySem.W.fnOf "_law_is_word" "_law_is_word" (defArgs (top 29)) (defBody (top 29)) (defScope (top 29)) .none kV doc pm an cdv ct) ⟨us, []⟩ = pure ((["_law_thing"] : List Str).zip us) := fun _ _ _ _ _ _ us hl => match us, hl with | [_], _ => rfl
theorem sc17 : FnScope ["_law_thing", ".0", "_law_x"] ["_law_thing"] (defScope (top 29)) := ⟨rfl, rfl, rfl, by decide +kernel, rfl, by decide +kernel, by decide +kernel⟩
theorem bd18 : ∀ (kV doc pm : Value) (an : Option Addr) (cdv ct : Value) (us : List Value), us.length = (["_law_thing"] : List Str).length → bindArgs (PySem.W.fnOf "_law_is_worth" "_law_is_worth" (defArgs (top 30)) (defBody (top 30)) (defScope (top 30)) .none kV doc pm an cdv ct) ⟨us, []⟩ = pure ((["_law_thing"] : List Str).zip us) := fun _ _ _ _ _ _ us hl => match us, hl with | [_], _ => rfl
theorem sc18 : FnScope ["_law_thing"] ["_law_thing"] (defScope (top 30)) := ⟨rfl, rfl, rfl, by decide +kernel, rfl, by decide +kernel, by decide +kernel⟩
theorem bd19 : ∀ (kV doc pm : Value) (an : Option Addr) (cdv ct : Value) (us : List Value), us.length = (["_law_thing"] : List Str).length → bindArgs (PySem.W.fnOf "_law_are_houses" "_law_are_houses" (defArgs (top 31)) (defBody (top 31)) (defScope (top 31)) .none kV doc pm an cdv ct) ⟨us, []⟩ = pure ((["_law_thing"] : List Str).zip us) := fun _ _ _ _ _ _ us hl => match us, hl with | [_], _ => rfl
theorem sc19 : FnScope ["_law_thing", ".0", "_law_it"] ["_law_thing"] (defScope (top 31)) := ⟨rfl, rfl, rfl, by decide +kernel, rfl, by decide +kernel, by decide +kernel⟩
theorem bd20 : ∀ (kV doc pm : Value) (an : Option Addr) (cdv ct : Value) (us : List Value), us.length = (["_law_thing"] : List Str).length → bindArgs (PySem.W.fnOf "_law_is_row" "_law_is_row" (defArgs (top 32)) (defBody (top 32)) (defScope (top 32)) .none kV doc pm an cdv ct) ⟨us, []⟩ = pure ((["_law_thing"] : List Str).zip us) := fun _ _ _ _ _ _ us hl => match us, hl with | [_], _ => rfl
theorem sc20 : FnScope ["_law_thing", "_law_word", "_law_rest", "_law_many", ".0", "_law_it"] ["_law_thing"] (defScope (top 32)) := ⟨rfl, rfl, rfl, by decide +kernel, rfl, by decide +kernel, by decide +kernel⟩
theorem bd21 : ∀ (kV doc pm : Value) (an : Option Addr) (cdv ct : Value) (us : List Value), us.length = (["_law_item"] : List Str).length → bindArgs (PySem.W.fnOf "_law_item_text" "_law_item_text" (defArgs (top 33)) (defBody (top 33)) (defScope (top 33)) .none kV doc pm an cdv ct) ⟨us, []⟩ = pure ((["_law_item"] : List Str).zip us) := fun _ _ _ _ _ _ us hl => match us, hl with | [_], _ => rfl
theorem sc21 : FnScope ["_law_item", ".0", "_law_it"] ["_law_item"] (defScope (top 33)) := ⟨rfl, rfl, rfl, by decide +kernel, rfl, by decide +kernel, by decide +kernel⟩
theorem bd22 : ∀ (kV doc pm : Value) (an : Option Addr) (cdv ct : Value) (us : List Value), us.length = (["_law_row_here"] : List Str).length → bindArgs (PySem.W.fnOf "_law_row_text" "_law_row_text" (defArgs (top 34)) (defBody (top 34)) (defScope (top 34)) .none kV doc pm an cdv ct) ⟨us, []⟩ = pure ((["_law_row_here"] : List Str).zip us) := fun _ _ _ _ _ _ us hl => match us, hl with | [_], _ => rfl
theorem sc22 : FnScope ["_law_row_here", ".0", "_law_item"] ["_law_row_here"] (defScope (top 34)) := ⟨rfl, rfl, rfl, by decide +kernel, rfl, by decide +kernel, by decide +kernel⟩
theorem bd23 : ∀ (kV doc pm : Value) (an : Option Addr) (cdv ct : Value) (us : List Value), us.length = (["_law_row_here"] : List Str).length → bindArgs (PySem.W.fnOf "_law_sectors" "_law_sectors" (defArgs (top 35)) (defBody (top 35)) (defScope (top 35)) .none kV doc pm an cdv ct) ⟨us, []⟩ = pure ((["_law_row_here"] : List Str).zip us) := fun _ _ _ _ _ _ us hl => match us, hl with | [_], _ => rfl
theorem sc23 : FnScope ["_law_row_here", "_law_text", "_law_found"] ["_law_row_here"] (defScope (top 35)) := ⟨rfl, rfl, rfl, by decide +kernel, rfl, by decide +kernel, by decide +kernel⟩
theorem bd24 : ∀ (kV doc pm : Value) (an : Option Addr) (cdv ct : Value) (us : List Value), us.length = (["_law_thing"] : List Str).length → bindArgs (PySem.W.fnOf "_law_is_device" "_law_is_device" (defArgs (top 36)) (defBody (top 36)) (defScope (top 36)) .none kV doc pm an cdv ct) ⟨us, []⟩ = pure ((["_law_thing"] : List Str).zip us) := fun _ _ _ _ _ _ us hl => match us, hl with | [_], _ => rfl
theorem sc24 : FnScope ["_law_thing", ".0", "_law_it"] ["_law_thing"] (defScope (top 36)) := ⟨rfl, rfl, rfl, by decide +kernel, rfl, by decide +kernel, by decide +kernel⟩
theorem bd25 : ∀ (kV doc pm : Value) (an : Option Addr) (cdv ct : Value) (us : List Value), us.length = (["_law_deck_here"] : List Str).length → bindArgs (PySem.W.fnOf "_law_key" "_law_key" (defArgs (top 37)) (defBody (top 37)) (defScope (top 37)) .none kV doc pm an cdv ct) ⟨us, []⟩ = pure ((["_law_deck_here"] : List Str).zip us) := fun _ _ _ _ _ _ us hl => match us, hl with | [_], _ => rfl
theorem sc25 : FnScope ["_law_deck_here"] ["_law_deck_here"] (defScope (top 37)) := ⟨rfl, rfl, rfl, by decide +kernel, rfl, by decide +kernel, by decide +kernel⟩
theorem bd26 : ∀ (kV doc pm : Value) (an : Option Addr) (cdv ct : Value) (us : List Value), us.length = (["_law_deck_here"] : List Str).length → bindArgs (PySem.W.fnOf "_law_worth" "_law_worth" (defArgs (top 38)) (defBody (top 38)) (defScope (top 38)) .none kV doc pm an cdv ct) ⟨us, []⟩ = pure ((["_law_deck_here"] : List Str).zip us) := fun _ _ _ _ _ _ us hl => match us, hl with | [_], _ => rfl
theorem sc26 : FnScope ["_law_deck_here"] ["_law_deck_here"] (defScope (top 38)) := ⟨rfl, rfl, rfl, by decide +kernel, rfl, by decide +kernel, by decide +kernel⟩
theorem bd27 : ∀ (kV doc pm : Value) (an : Option Addr) (cdv ct : Value) (us : List Value), us.length = (["_law_deck_here"] : List Str).length → bindArgs (PySem.W.fnOf "_law_deal" "_law_deal" (defArgs (top 39)) (defBody (top 39)) (defScope (top 39)) .none kV doc pm an cdv ct) ⟨us, []⟩ = pure ((["_law_deck_here"] : List Str).zip us) := fun _ _ _ _ _ _ us hl => match us, hl with | [_], _ => rfl
theorem sc27 : FnScope ["_law_deck_here"] ["_law_deck_here"] (defScope (top 39)) := ⟨rfl, rfl, rfl, by decide +kernel, rfl, by decide +kernel, by decide +kernel⟩
theorem bd28 : ∀ (kV doc pm : Value) (an : Option Addr) (cdv ct : Value) (us : List Value), us.length = (["_law_deck_here"] : List Str).length → bindArgs (PySem.W.fnOf "_law_row" "_law_row" (defArgs (top 40)) (defBody (top 40)) (defScope (top 40)) .none kV doc pm an cdv ct) ⟨us, []⟩ = pure ((["_law_deck_here"] : List Str).zip us) := fun _ _ _ _ _ _ us hl => match us, hl with | [_], _ => rfl
theorem sc28 : FnScope ["_law_deck_here", "_law_way", "_law_deal_here", "_law_some"] ["_law_deck_here"] (defScope (top 40)) := ⟨rfl, rfl, rfl, by decide +kernel, rfl, by decide +kernel, by decide +kernel⟩
theorem bd29 : ∀ (kV doc pm : Value) (an : Option Addr) (cdv ct : Value) (us : List Value), us.length = (["_law_deck_here", "_law_most"] : List Str).length → bindArgs (PySem.W.fnOf "_law_rows" "_law_rows" (defArgs (top 41)) (defBody (top 41)) (defScope (top 41)) .none kV doc pm an cdv ct) ⟨us, []⟩ = pure ((["_law_deck_here", "_law_most"] : List Str).zip us) := fun _ _ _ _ _ _ us hl => match us, hl with | [_, _], _ => rfl
theorem sc29 : FnScope ["_law_deck_here", "_law_most", ".0", "_law_turn"] ["_law_deck_here", "_law_most"] (defScope (top 41)) := ⟨rfl, rfl, rfl, by decide +kernel, rfl, by decide +kernel, by decide +kernel⟩
theorem bd30 : ∀ (kV doc pm : Value) (an : Option Addr) (cdv ct : Value) (us : List Value), us.length = (["_law_rows_here"] : List Str).length → bindArgs (PySem.W.fnOf "_law_all_sectors" "_law_all_sectors" (defArgs (top 42)) (defBody (top 42)) (defScope (top 42)) .none kV doc pm an cdv ct) ⟨us, []⟩ = pure ((["_law_rows_here"] : List Str).zip us) := fun _ _ _ _ _ _ us hl => match us, hl with | [_], _ => rfl
theorem sc30 : FnScope ["_law_rows_here", "_law_found", "_law_row_here"] ["_law_rows_here"] (defScope (top 42)) := ⟨rfl, rfl, rfl, by decide +kernel, rfl, by decide +kernel, by decide +kernel⟩
theorem bd31 : ∀ (kV doc pm : Value) (an : Option Addr) (cdv ct : Value) (us : List Value), us.length = (["_law_deck_here"] : List Str).length → bindArgs (PySem.W.fnOf "_law_any" "_law_any" (defArgs (top 43)) (defBody (top 43)) (defScope (top 43)) .none kV doc pm an cdv ct) ⟨us, []⟩ = pure ((["_law_deck_here"] : List Str).zip us) := fun _ _ _ _ _ _ us hl => match us, hl with | [_], _ => rfl
theorem sc31 : FnScope ["_law_deck_here", "_law_some"] ["_law_deck_here"] (defScope (top 43)) := ⟨rfl, rfl, rfl, by decide +kernel, rfl, by decide +kernel, by decide +kernel⟩
theorem bd32 : ∀ (kV doc pm : Value) (an : Option Addr) (cdv ct : Value) (us : List Value), us.length = (["_law_deck_here", "_law_thing"] : List Str).length → bindArgs (PySem.W.fnOf "_law_turned_part" "_law_turned_part" (defArgs (top 44)) (defBody (top 44)) (defScope (top 44)) .none kV doc pm an cdv ct) ⟨us, []⟩ = pure ((["_law_deck_here", "_law_thing"] : List Str).zip us) := fun _ _ _ _ _ _ us hl => match us, hl with | [_, _], _ => rfl
theorem sc32 : FnScope ["_law_deck_here", "_law_thing", "_law_at", "_law_some"] ["_law_deck_here", "_law_thing"] (defScope (top 44)) := ⟨rfl, rfl, rfl, by decide +kernel, rfl, by decide +kernel, by decide +kernel⟩
theorem bd33 : ∀ (kV doc pm : Value) (an : Option Addr) (cdv ct : Value) (us : List Value), us.length = (["_law_deck_here", "_law_thing", "_law_deep"] : List Str).length → bindArgs (PySem.W.fnOf "_law_bent" "_law_bent" (defArgs (top 45)) (defBody (top 45)) (defScope (top 45)) .none kV doc pm an cdv ct) ⟨us, []⟩ = pure ((["_law_deck_here", "_law_thing", "_law_deep"] : List Str).zip us) := fun _ _ _ _ _ _ us hl => match us, hl with | [_, _, _], _ => rfl
theorem sc33 : FnScope ["_law_deck_here", "_law_thing", "_law_deep", "_law_at"] ["_law_deck_here", "_law_thing", "_law_deep"] (defScope (top 45)) := ⟨rfl, rfl, rfl, by decide +kernel, rfl, by decide +kernel, by decide +kernel⟩
theorem bd34 : ∀ (kV doc pm : Value) (an : Option Addr) (cdv ct : Value) (us : List Value), us.length = (["_law_deck_here", "_law_sectors_here"] : List Str).length → bindArgs (PySem.W.fnOf "_law_garbled" "_law_garbled" (defArgs (top 46)) (defBody (top 46)) (defScope (top 46)) .none kV doc pm an cdv ct) ⟨us, []⟩ = pure ((["_law_deck_here", "_law_sectors_here"] : List Str).zip us) := fun _ _ _ _ _ _ us hl => match us, hl with | [_, _], _ => rfl
theorem sc34 : FnScope ["_law_deck_here", "_law_sectors_here", "_law_found", "_law_turn", "_law_at", "_law_way", "_law_spot"] ["_law_deck_here", "_law_sectors_here"] (defScope (top 46)) := ⟨rfl, rfl, rfl, by decide +kernel, rfl, by decide +kernel, by decide +kernel⟩
theorem bd35 : ∀ (kV doc pm : Value) (an : Option Addr) (cdv ct : Value) (us : List Value), us.length = (["_law_script"] : List Str).length → bindArgs (PySem.W.fnOf "law" "law" (defArgs (top 47)) (defBody (top 47)) (defScope (top 47)) .none kV doc pm an cdv ct) ⟨us, []⟩ = pure ((["_law_script"] : List Str).zip us) := fun _ _ _ _ _ _ us hl => match us, hl with | [_], _ => rfl
theorem sc35 : FnScope ["_law_script", "_law_deck_here", "_law_turn", "_law_row_here", "_law_thing", "_law_due", "_law_before", "_law_sectors_here", "_law_device"] ["_law_script"] (defScope (top 47)) := ⟨rfl, rfl, rfl, by decide +kernel, rfl, by decide +kernel, by decide +kernel⟩
theorem kw0 {K : PySem.W.Frag} {f : Addr} {fd : FuncData} (F : Fun K "is_log_row" "is_log_row" (top 20) f fd) : KwOk K fd ["thing"] ["thing"] 0 [0] := ⟨by decide, fun s us ws _ h1 h2 => by
  have h3 : ws.length = 1 := by have h2 : us.length + ws.length = 1 := h2; omega
  match us, h1 with
  | [], _ => match ws, h3 with
    | [_], _ => exact Fun.bindsTo F (fun _ _ _ _ _ _ => rfl) s, rfl⟩
theorem kw1 {K : PySem.W.Frag} {f : Addr} {fd : FuncData} (F : Fun K "is_device" "is_device" (top 21) f fd) : KwOk K fd ["thing"] ["thing"] 0 [0] := ⟨by decide, fun s us ws _ h1 h2 => by
  have h3 : ws.length = 1 := by have h2 : us.length + ws.length = 1 := h2; omega
  match us, h1 with
  | [], _ => match ws, h3 with
    | [_], _ => exact Fun.bindsTo F (fun _ _ _ _ _ _ => rfl) s, rfl⟩
section
variable {w : World} {K : PySem.W.Frag} {h : Heap} {mg : Str → Option Value}
theorem kw_in {g m : Nat} {ks : List Str} {pm : List Nat} (hk : (g, m, ks, pm) ∈ tb.kws) : (g = 9 ∧ m = 0 ∧ ks = (["thing"] : List Str) ∧ pm = [0]) ∨ (g = 10 ∧ m = 0 ∧ ks = (["thing"] : List Str) ∧ pm = [0]) := by
  simpa [tb] using hk
def RowP (K : PySem.W.Frag) (mg : Str → Option Value) (g : Nat) (d : Df) : Prop := ∃ fl fd, tb.fns[g]? = some (d.x, fl) ∧ fl.length = d.ps.length ∧ Fun K d.x d.x d.st (ffa K g) fd ∧ mg d.x = some (.ref (ffa K g)) ∧ Binds K fd d.ps [] ∧ FnScope d.N d.ps (defScope d.st) ∧ d.prot.all (fun j => decide (j < d.ps.length)) = true ∧ ∀ m ks pm, (g, m, ks, pm) ∈ tb.kws → KwOk K fd d.ps ks m pm
theorem row0 (X : K.In h) (G : h.Ns mainGlobals mg) (c : SaysB hfa hfn hts hex w K) : RowP K mg 0 d0 := by
  obtain ⟨fd, F⟩ := heF c 0 (x := "is_integer") (st := top 3) rfl
  refine ⟨_, fd, rfl, rfl, F, He.glo_ok X G (c.t.d.fact 0 rfl), F.binds bd0, sc0, by decide, fun m ks pm hk => ?_⟩
  rcases kw_in hk with ⟨h1, h2, h3, h4⟩ | ⟨h1, h2, h3, h4⟩
  · exact absurd h1 (by decide)
  · exact absurd h1 (by decide)
theorem row1 (X : K.In h) (G : h.Ns mainGlobals mg) (c : SaysB hfa hfn hts hex w K) : RowP K mg 1 d1 := by
  obtain ⟨fd, F⟩ := heF c 1 (x := "is_integer_in") (st := top 4) rfl
  refine ⟨_, fd, rfl, rfl, F, He.glo_ok X G (c.t.d.fact 1 rfl), F.binds bd1, sc1, by decide, fun m ks pm hk => ?_⟩
  rcases kw_in hk with ⟨h1, h2, h3, h4⟩ | ⟨h1, h2, h3, h4⟩
  · exact absurd h1 (by decide)
  · exact absurd h1 (by decide)
theorem row2 (X : K.In h) (G : h.Ns mainGlobals mg) (c : SaysB hfa hfn hts hex w K) : RowP K mg 2 d2 := by
  obtain ⟨fd, F⟩ := heF c 2 (x := "is_count") (st := top 5) rfl
  refine ⟨_, fd, rfl, rfl, F, He.glo_ok X G (c.t.d.fact 2 rfl), F.binds bd2, sc2, by decide, fun m ks pm hk => ?_⟩
  rcases kw_in hk with ⟨h1, h2, h3, h4⟩ | ⟨h1, h2, h3, h4⟩
  · exact absurd h1 (by decide)
  · exact absurd h1 (by decide)
theorem row3 (X : K.In h) (G : h.Ns mainGlobals mg) (c : SaysB hfa hfn hts hex w K) : RowP K mg 3 d3 := by
  obtain ⟨fd, F⟩ := heF c 3 (x := "is_word") (st := top 6) rfl
  refine ⟨_, fd, rfl, rfl, F, He.glo_ok X G (c.t.d.fact 3 rfl), F.binds bd3, sc3, by decide, fun m ks pm hk => ?_⟩
  rcases kw_in hk with ⟨h1, h2, h3, h4⟩ | ⟨h1, h2, h3, h4⟩
  · exact absurd h1 (by decide)
  · exact absurd h1 (by decide)
theorem row4 (X : K.In h) (G : h.Ns mainGlobals mg) (c : SaysB hfa hfn hts hex w K) : RowP K mg 4 d4 := by
  obtain ⟨fd, F⟩ := heF c 4 (x := "is_tuple_of") (st := top 7) rfl
  refine ⟨_, fd, rfl, rfl, F, He.glo_ok X G (c.t.d.fact 4 rfl), F.binds bd4, sc4, by decide, fun m ks pm hk => ?_⟩
  rcases kw_in hk with ⟨h1, h2, h3, h4⟩ | ⟨h1, h2, h3, h4⟩
  · exact absurd h1 (by decide)
  · exact absurd h1 (by decide)
theorem row5 (X : K.In h) (G : h.Ns mainGlobals mg) (c : SaysB hfa hfn hts hex w K) : RowP K mg 5 d5 := by
  obtain ⟨fd, F⟩ := heF c 5 (x := "has_row_form") (st := top 14) rfl
  refine ⟨_, fd, rfl, rfl, F, He.glo_ok X G (c.t.d.fact 5 rfl), F.binds bd5, sc5, by decide, fun m ks pm hk => ?_⟩
  rcases kw_in hk with ⟨h1, h2, h3, h4⟩ | ⟨h1, h2, h3, h4⟩
  · exact absurd h1 (by decide)
  · exact absurd h1 (by decide)
theorem row6 (X : K.In h) (G : h.Ns mainGlobals mg) (c : SaysB hfa hfn hts hex w K) : RowP K mg 6 d6 := by
  obtain ⟨fd, F⟩ := heF c 6 (x := "has_worth_form") (st := top 15) rfl
  refine ⟨_, fd, rfl, rfl, F, He.glo_ok X G (c.t.d.fact 6 rfl), F.binds bd6, sc6, by decide, fun m ks pm hk => ?_⟩
  rcases kw_in hk with ⟨h1, h2, h3, h4⟩ | ⟨h1, h2, h3, h4⟩
  · exact absurd h1 (by decide)
  · exact absurd h1 (by decide)
theorem row7 (X : K.In h) (G : h.Ns mainGlobals mg) (c : SaysB hfa hfn hts hex w K) : RowP K mg 7 d7 := by
  obtain ⟨fd, F⟩ := heF c 7 (x := "has_part_form") (st := top 16) rfl
  refine ⟨_, fd, rfl, rfl, F, He.glo_ok X G (c.t.d.fact 7 rfl), F.binds bd7, sc7, by decide, fun m ks pm hk => ?_⟩
  rcases kw_in hk with ⟨h1, h2, h3, h4⟩ | ⟨h1, h2, h3, h4⟩
  · exact absurd h1 (by decide)
  · exact absurd h1 (by decide)
theorem row8 (X : K.In h) (G : h.Ns mainGlobals mg) (c : SaysB hfa hfn hts hex w K) : RowP K mg 8 d8 := by
  obtain ⟨fd, F⟩ := heF c 8 (x := "has_houses_form") (st := top 17) rfl
  refine ⟨_, fd, rfl, rfl, F, He.glo_ok X G (c.t.d.fact 8 rfl), F.binds bd8, sc8, by decide, fun m ks pm hk => ?_⟩
  rcases kw_in hk with ⟨h1, h2, h3, h4⟩ | ⟨h1, h2, h3, h4⟩
  · exact absurd h1 (by decide)
  · exact absurd h1 (by decide)
theorem row9 (X : K.In h) (G : h.Ns mainGlobals mg) (c : SaysB hfa hfn hts hex w K) : RowP K mg 9 d9 := by
  obtain ⟨fd, F⟩ := heF c 9 (x := "is_log_row") (st := top 20) rfl
  refine ⟨_, fd, rfl, rfl, F, He.glo_ok X G (c.t.d.fact 9 rfl), F.binds bd9, sc9, by decide, fun m ks pm hk => ?_⟩
  rcases kw_in hk with ⟨h1, h2, h3, h4⟩ | ⟨h1, h2, h3, h4⟩
  · subst h2 h3 h4; exact kw0 F
  · exact absurd h1 (by decide)
theorem row10 (X : K.In h) (G : h.Ns mainGlobals mg) (c : SaysB hfa hfn hts hex w K) : RowP K mg 10 d10 := by
  obtain ⟨fd, F⟩ := heF c 10 (x := "is_device") (st := top 21) rfl
  refine ⟨_, fd, rfl, rfl, F, He.glo_ok X G (c.t.d.fact 10 rfl), F.binds bd10, sc10, by decide, fun m ks pm hk => ?_⟩
  rcases kw_in hk with ⟨h1, h2, h3, h4⟩ | ⟨h1, h2, h3, h4⟩
  · exact absurd h1 (by decide)
  · subst h2 h3 h4; exact kw1 F
theorem row11 (X : K.In h) (G : h.Ns mainGlobals mg) (c : SaysB hfa hfn hts hex w K) : RowP K mg 11 d11 := by
  obtain ⟨fd, F⟩ := heF c 11 (x := "is_sector") (st := top 22) rfl
  refine ⟨_, fd, rfl, rfl, F, He.glo_ok X G (c.t.d.fact 11 rfl), F.binds bd11, sc11, by decide, fun m ks pm hk => ?_⟩
  rcases kw_in hk with ⟨h1, h2, h3, h4⟩ | ⟨h1, h2, h3, h4⟩
  · exact absurd h1 (by decide)
  · exact absurd h1 (by decide)
theorem row12 (X : K.In h) (G : h.Ns mainGlobals mg) (c : SaysB hfa hfn hts hex w K) : RowP K mg 12 d12 := by
  obtain ⟨fd, F⟩ := heF c 12 (x := "_law_deck") (st := top 24) rfl
  refine ⟨_, fd, rfl, rfl, F, He.glo_ok X G (c.t.d.fact 12 rfl), F.binds bd12, sc12, by decide, fun m ks pm hk => ?_⟩
  rcases kw_in hk with ⟨h1, h2, h3, h4⟩ | ⟨h1, h2, h3, h4⟩
  · exact absurd h1 (by decide)
  · exact absurd h1 (by decide)
theorem row13 (X : K.In h) (G : h.Ns mainGlobals mg) (c : SaysB hfa hfn hts hex w K) : RowP K mg 13 d13 := by
  obtain ⟨fd, F⟩ := heF c 13 (x := "_law_draw") (st := top 25) rfl
  refine ⟨_, fd, rfl, rfl, F, He.glo_ok X G (c.t.d.fact 13 rfl), F.binds bd13, sc13, by decide, fun m ks pm hk => ?_⟩
  rcases kw_in hk with ⟨h1, h2, h3, h4⟩ | ⟨h1, h2, h3, h4⟩
  · exact absurd h1 (by decide)
  · exact absurd h1 (by decide)
theorem row14 (X : K.In h) (G : h.Ns mainGlobals mg) (c : SaysB hfa hfn hts hex w K) : RowP K mg 14 d14 := by
  obtain ⟨fd, F⟩ := heF c 14 (x := "_law_pick") (st := top 26) rfl
  refine ⟨_, fd, rfl, rfl, F, He.glo_ok X G (c.t.d.fact 14 rfl), F.binds bd14, sc14, by decide, fun m ks pm hk => ?_⟩
  rcases kw_in hk with ⟨h1, h2, h3, h4⟩ | ⟨h1, h2, h3, h4⟩
  · exact absurd h1 (by decide)
  · exact absurd h1 (by decide)
theorem row15 (X : K.In h) (G : h.Ns mainGlobals mg) (c : SaysB hfa hfn hts hex w K) : RowP K mg 15 d15 := by
  obtain ⟨fd, F⟩ := heF c 15 (x := "_law_is_integer") (st := top 27) rfl
  refine ⟨_, fd, rfl, rfl, F, He.glo_ok X G (c.t.d.fact 15 rfl), F.binds bd15, sc15, by decide, fun m ks pm hk => ?_⟩
  rcases kw_in hk with ⟨h1, h2, h3, h4⟩ | ⟨h1, h2, h3, h4⟩
  · exact absurd h1 (by decide)
  · exact absurd h1 (by decide)
theorem row16 (X : K.In h) (G : h.Ns mainGlobals mg) (c : SaysB hfa hfn hts hex w K) : RowP K mg 16 d16 := by
  obtain ⟨fd, F⟩ := heF c 16 (x := "_law_is_number") (st := top 28) rfl
  refine ⟨_, fd, rfl, rfl, F, He.glo_ok X G (c.t.d.fact 16 rfl), F.binds bd16, sc16, by decide, fun m ks pm hk => ?_⟩
  rcases kw_in hk with ⟨h1, h2, h3, h4⟩ | ⟨h1, h2, h3, h4⟩
  · exact absurd h1 (by decide)
  · exact absurd h1 (by decide)
theorem row17 (X : K.In h) (G : h.Ns mainGlobals mg) (c : SaysB hfa hfn hts hex w K) : RowP K mg 17 d17 := by
  obtain ⟨fd, F⟩ := heF c 17 (x := "_law_is_word") (st := top 29) rfl
  refine ⟨_, fd, rfl, rfl, F, He.glo_ok X G (c.t.d.fact 17 rfl), F.binds bd17, sc17, by decide, fun m ks pm hk => ?_⟩
  rcases kw_in hk with ⟨h1, h2, h3, h4⟩ | ⟨h1, h2, h3, h4⟩
  · exact absurd h1 (by decide)
  · exact absurd h1 (by decide)
theorem row18 (X : K.In h) (G : h.Ns mainGlobals mg) (c : SaysB hfa hfn hts hex w K) : RowP K mg 18 d18 := by
  obtain ⟨fd, F⟩ := heF c 18 (x := "_law_is_worth") (st := top 30) rfl
  refine ⟨_, fd, rfl, rfl, F, He.glo_ok X G (c.t.d.fact 18 rfl), F.binds bd18, sc18, by decide, fun m ks pm hk => ?_⟩
  rcases kw_in hk with ⟨h1, h2, h3, h4⟩ | ⟨h1, h2, h3, h4⟩
  · exact absurd h1 (by decide)
  · exact absurd h1 (by decide)
theorem row19 (X : K.In h) (G : h.Ns mainGlobals mg) (c : SaysB hfa hfn hts hex w K) : RowP K mg 19 d19 := by
  obtain ⟨fd, F⟩ := heF c 19 (x := "_law_are_houses") (st := top 31) rfl
  refine ⟨_, fd, rfl, rfl, F, He.glo_ok X G (c.t.d.fact 19 rfl), F.binds bd19, sc19, by decide, fun m ks pm hk => ?_⟩
  rcases kw_in hk with ⟨h1, h2, h3, h4⟩ | ⟨h1, h2, h3, h4⟩
  · exact absurd h1 (by decide)
  · exact absurd h1 (by decide)
theorem row20 (X : K.In h) (G : h.Ns mainGlobals mg) (c : SaysB hfa hfn hts hex w K) : RowP K mg 20 d20 := by
  obtain ⟨fd, F⟩ := heF c 20 (x := "_law_is_row") (st := top 32) rfl
  refine ⟨_, fd, rfl, rfl, F, He.glo_ok X G (c.t.d.fact 20 rfl), F.binds bd20, sc20, by decide, fun m ks pm hk => ?_⟩
  rcases kw_in hk with ⟨h1, h2, h3, h4⟩ | ⟨h1, h2, h3, h4⟩
  · exact absurd h1 (by decide)
  · exact absurd h1 (by decide)
theorem row21 (X : K.In h) (G : h.Ns mainGlobals mg) (c : SaysB hfa hfn hts hex w K) : RowP K mg 21 d21 := by
  obtain ⟨fd, F⟩ := heF c 21 (x := "_law_item_text") (st := top 33) rfl
  refine ⟨_, fd, rfl, rfl, F, He.glo_ok X G (c.t.d.fact 21 rfl), F.binds bd21, sc21, by decide, fun m ks pm hk => ?_⟩
  rcases kw_in hk with ⟨h1, h2, h3, h4⟩ | ⟨h1, h2, h3, h4⟩
  · exact absurd h1 (by decide)
  · exact absurd h1 (by decide)
theorem row22 (X : K.In h) (G : h.Ns mainGlobals mg) (c : SaysB hfa hfn hts hex w K) : RowP K mg 22 d22 := by
  obtain ⟨fd, F⟩ := heF c 22 (x := "_law_row_text") (st := top 34) rfl
  refine ⟨_, fd, rfl, rfl, F, He.glo_ok X G (c.t.d.fact 22 rfl), F.binds bd22, sc22, by decide, fun m ks pm hk => ?_⟩
  rcases kw_in hk with ⟨h1, h2, h3, h4⟩ | ⟨h1, h2, h3, h4⟩
  · exact absurd h1 (by decide)
  · exact absurd h1 (by decide)
theorem row23 (X : K.In h) (G : h.Ns mainGlobals mg) (c : SaysB hfa hfn hts hex w K) : RowP K mg 23 d23 := by
  obtain ⟨fd, F⟩ := heF c 23 (x := "_law_sectors") (st := top 35) rfl
  refine ⟨_, fd, rfl, rfl, F, He.glo_ok X G (c.t.d.fact 23 rfl), F.binds bd23, sc23, by decide, fun m ks pm hk => ?_⟩
  rcases kw_in hk with ⟨h1, h2, h3, h4⟩ | ⟨h1, h2, h3, h4⟩
  · exact absurd h1 (by decide)
  · exact absurd h1 (by decide)
theorem row24 (X : K.In h) (G : h.Ns mainGlobals mg) (c : SaysB hfa hfn hts hex w K) : RowP K mg 24 d24 := by
  obtain ⟨fd, F⟩ := heF c 24 (x := "_law_is_device") (st := top 36) rfl
  refine ⟨_, fd, rfl, rfl, F, He.glo_ok X G (c.t.d.fact 24 rfl), F.binds bd24, sc24, by decide, fun m ks pm hk => ?_⟩
  rcases kw_in hk with ⟨h1, h2, h3, h4⟩ | ⟨h1, h2, h3, h4⟩
  · exact absurd h1 (by decide)
  · exact absurd h1 (by decide)
theorem row25 (X : K.In h) (G : h.Ns mainGlobals mg) (c : SaysB hfa hfn hts hex w K) : RowP K mg 25 d25 := by
  obtain ⟨fd, F⟩ := heF c 25 (x := "_law_key") (st := top 37) rfl
  refine ⟨_, fd, rfl, rfl, F, He.glo_ok X G (c.t.d.fact 25 rfl), F.binds bd25, sc25, by decide, fun m ks pm hk => ?_⟩
  rcases kw_in hk with ⟨h1, h2, h3, h4⟩ | ⟨h1, h2, h3, h4⟩
  · exact absurd h1 (by decide)
  · exact absurd h1 (by decide)
theorem row26 (X : K.In h) (G : h.Ns mainGlobals mg) (c : SaysB hfa hfn hts hex w K) : RowP K mg 26 d26 := by
  obtain ⟨fd, F⟩ := heF c 26 (x := "_law_worth") (st := top 38) rfl
  refine ⟨_, fd, rfl, rfl, F, He.glo_ok X G (c.t.d.fact 26 rfl), F.binds bd26, sc26, by decide, fun m ks pm hk => ?_⟩
  rcases kw_in hk with ⟨h1, h2, h3, h4⟩ | ⟨h1, h2, h3, h4⟩
  · exact absurd h1 (by decide)
  · exact absurd h1 (by decide)
theorem row27 (X : K.In h) (G : h.Ns mainGlobals mg) (c : SaysB hfa hfn hts hex w K) : RowP K mg 27 d27 := by
  obtain ⟨fd, F⟩ := heF c 27 (x := "_law_deal") (st := top 39) rfl
  refine ⟨_, fd, rfl, rfl, F, He.glo_ok X G (c.t.d.fact 27 rfl), F.binds bd27, sc27, by decide, fun m ks pm hk => ?_⟩
  rcases kw_in hk with ⟨h1, h2, h3, h4⟩ | ⟨h1, h2, h3, h4⟩
  · exact absurd h1 (by decide)
  · exact absurd h1 (by decide)
theorem row28 (X : K.In h) (G : h.Ns mainGlobals mg) (c : SaysB hfa hfn hts hex w K) : RowP K mg 28 d28 := by
  obtain ⟨fd, F⟩ := heF c 28 (x := "_law_row") (st := top 40) rfl
  refine ⟨_, fd, rfl, rfl, F, He.glo_ok X G (c.t.d.fact 28 rfl), F.binds bd28, sc28, by decide, fun m ks pm hk => ?_⟩
  rcases kw_in hk with ⟨h1, h2, h3, h4⟩ | ⟨h1, h2, h3, h4⟩
  · exact absurd h1 (by decide)
  · exact absurd h1 (by decide)
theorem row29 (X : K.In h) (G : h.Ns mainGlobals mg) (c : SaysB hfa hfn hts hex w K) : RowP K mg 29 d29 := by
  obtain ⟨fd, F⟩ := heF c 29 (x := "_law_rows") (st := top 41) rfl
  refine ⟨_, fd, rfl, rfl, F, He.glo_ok X G (c.t.d.fact 29 rfl), F.binds bd29, sc29, by decide, fun m ks pm hk => ?_⟩
  rcases kw_in hk with ⟨h1, h2, h3, h4⟩ | ⟨h1, h2, h3, h4⟩
  · exact absurd h1 (by decide)
  · exact absurd h1 (by decide)
theorem row30 (X : K.In h) (G : h.Ns mainGlobals mg) (c : SaysB hfa hfn hts hex w K) : RowP K mg 30 d30 := by
  obtain ⟨fd, F⟩ := heF c 30 (x := "_law_all_sectors") (st := top 42) rfl
  refine ⟨_, fd, rfl, rfl, F, He.glo_ok X G (c.t.d.fact 30 rfl), F.binds bd30, sc30, by decide, fun m ks pm hk => ?_⟩
  rcases kw_in hk with ⟨h1, h2, h3, h4⟩ | ⟨h1, h2, h3, h4⟩
  · exact absurd h1 (by decide)
  · exact absurd h1 (by decide)
theorem row31 (X : K.In h) (G : h.Ns mainGlobals mg) (c : SaysB hfa hfn hts hex w K) : RowP K mg 31 d31 := by
  obtain ⟨fd, F⟩ := heF c 31 (x := "_law_any") (st := top 43) rfl
  refine ⟨_, fd, rfl, rfl, F, He.glo_ok X G (c.t.d.fact 31 rfl), F.binds bd31, sc31, by decide, fun m ks pm hk => ?_⟩
  rcases kw_in hk with ⟨h1, h2, h3, h4⟩ | ⟨h1, h2, h3, h4⟩
  · exact absurd h1 (by decide)
  · exact absurd h1 (by decide)
theorem row32 (X : K.In h) (G : h.Ns mainGlobals mg) (c : SaysB hfa hfn hts hex w K) : RowP K mg 32 d32 := by
  obtain ⟨fd, F⟩ := heF c 32 (x := "_law_turned_part") (st := top 44) rfl
  refine ⟨_, fd, rfl, rfl, F, He.glo_ok X G (c.t.d.fact 32 rfl), F.binds bd32, sc32, by decide, fun m ks pm hk => ?_⟩
  rcases kw_in hk with ⟨h1, h2, h3, h4⟩ | ⟨h1, h2, h3, h4⟩
  · exact absurd h1 (by decide)
  · exact absurd h1 (by decide)
theorem row33 (X : K.In h) (G : h.Ns mainGlobals mg) (c : SaysB hfa hfn hts hex w K) : RowP K mg 33 d33 := by
  obtain ⟨fd, F⟩ := heF c 33 (x := "_law_bent") (st := top 45) rfl
  refine ⟨_, fd, rfl, rfl, F, He.glo_ok X G (c.t.d.fact 33 rfl), F.binds bd33, sc33, by decide, fun m ks pm hk => ?_⟩
  rcases kw_in hk with ⟨h1, h2, h3, h4⟩ | ⟨h1, h2, h3, h4⟩
  · exact absurd h1 (by decide)
  · exact absurd h1 (by decide)
theorem row34 (X : K.In h) (G : h.Ns mainGlobals mg) (c : SaysB hfa hfn hts hex w K) : RowP K mg 34 d34 := by
  obtain ⟨fd, F⟩ := heF c 34 (x := "_law_garbled") (st := top 46) rfl
  refine ⟨_, fd, rfl, rfl, F, He.glo_ok X G (c.t.d.fact 34 rfl), F.binds bd34, sc34, by decide, fun m ks pm hk => ?_⟩
  rcases kw_in hk with ⟨h1, h2, h3, h4⟩ | ⟨h1, h2, h3, h4⟩
  · exact absurd h1 (by decide)
  · exact absurd h1 (by decide)
theorem row35 (X : K.In h) (G : h.Ns mainGlobals mg) (c : SaysB hfa hfn hts hex w K) : RowP K mg 35 d35 := by
  obtain ⟨fd, F⟩ := heF c 35 (x := "law") (st := top 47) rfl
  refine ⟨_, fd, rfl, rfl, F, He.glo_ok X G (c.t.d.fact 35 rfl), F.binds bd35, sc35, by decide, fun m ks pm hk => ?_⟩
  rcases kw_in hk with ⟨h1, h2, h3, h4⟩ | ⟨h1, h2, h3, h4⟩
  · exact absurd h1 (by decide)
  · exact absurd h1 (by decide)
theorem hfree (X : K.In h) (G : h.Ns mainGlobals mg) (c : SaysB hfa hfn hts hex w K) : ∀ x ∈ freeN, mg x = none := by
  intro x hx
  simp only [freeN, List.mem_cons, List.not_mem_nil, or_false] at hx
  rcases hx with rfl | rfl | rfl | rfl | rfl | rfl | rfl | rfl | rfl | rfl | rfl | rfl | rfl | rfl | rfl | rfl | rfl | rfl | rfl
  · exact He.free_ok X G (c.t.d.fact 36 rfl)
  · exact He.free_ok X G (c.t.d.fact 37 rfl)
  · exact He.free_ok X G (c.t.d.fact 38 rfl)
  · exact He.free_ok X G (c.t.d.fact 39 rfl)
  · exact He.free_ok X G (c.t.d.fact 40 rfl)
  · exact He.free_ok X G (c.t.d.fact 41 rfl)
  · exact He.free_ok X G (c.t.d.fact 42 rfl)
  · exact He.free_ok X G (c.t.d.fact 43 rfl)
  · exact He.free_ok X G (c.t.d.fact 44 rfl)
  · exact He.free_ok X G (c.t.d.fact 45 rfl)
  · exact He.free_ok X G (c.t.d.fact 46 rfl)
  · exact He.free_ok X G (c.t.d.fact 47 rfl)
  · exact He.free_ok X G (c.t.d.fact 48 rfl)
  · exact He.free_ok X G (c.t.d.fact 49 rfl)
  · exact He.free_ok X G (c.t.d.fact 50 rfl)
  · exact He.free_ok X G (c.t.d.fact 51 rfl)
  · exact He.free_ok X G (c.t.d.fact 52 rfl)
  · exact He.free_ok X G (c.t.d.fact 53 rfl)
  · exact He.free_ok X G (c.t.d.fact 54 rfl)
theorem tops {P : Program} {base : Heap} (X : K.In h) (G : h.Ns mainGlobals mg) (c : SaysB hfa hfn hts hex w K) : Hd P w K mg base tb dfs (ffa K) := by
  have q := fun (i : Nat) (b : Bool) => exs (b := b) (l := hexq K) c.e i
  exact { len := by decide +kernel
          row := fun g d hg => by
            have hl : g < 36 := (List.getElem?_eq_some_iff.mp hg).1
            match g, hg, hl with
            | 0, hg, _ => cases (Option.some.inj hg); exact row0 X G c
            | 1, hg, _ => cases (Option.some.inj hg); exact row1 X G c
            | 2, hg, _ => cases (Option.some.inj hg); exact row2 X G c
            | 3, hg, _ => cases (Option.some.inj hg); exact row3 X G c
            | 4, hg, _ => cases (Option.some.inj hg); exact row4 X G c
            | 5, hg, _ => cases (Option.some.inj hg); exact row5 X G c
            | 6, hg, _ => cases (Option.some.inj hg); exact row6 X G c
            | 7, hg, _ => cases (Option.some.inj hg); exact row7 X G c
            | 8, hg, _ => cases (Option.some.inj hg); exact row8 X G c
            | 9, hg, _ => cases (Option.some.inj hg); exact row9 X G c
            | 10, hg, _ => cases (Option.some.inj hg); exact row10 X G c
            | 11, hg, _ => cases (Option.some.inj hg); exact row11 X G c
            | 12, hg, _ => cases (Option.some.inj hg); exact row12 X G c
            | 13, hg, _ => cases (Option.some.inj hg); exact row13 X G c
            | 14, hg, _ => cases (Option.some.inj hg); exact row14 X G c
            | 15, hg, _ => cases (Option.some.inj hg); exact row15 X G c
            | 16, hg, _ => cases (Option.some.inj hg); exact row16 X G c
            | 17, hg, _ => cases (Option.some.inj hg); exact row17 X G c
            | 18, hg, _ => cases (Option.some.inj hg); exact row18 X G c
            | 19, hg, _ => cases (Option.some.inj hg); exact row19 X G c
            | 20, hg, _ => cases (Option.some.inj hg); exact row20 X G c
            | 21, hg, _ => cases (Option.some.inj hg); exact row21 X G c
            | 22, hg, _ => cases (Option.some.inj hg); exact row22 X G c
            | 23, hg, _ => cases (Option.some.inj hg); exact row23 X G c
            | 24, hg, _ => cases (Option.some.inj hg); exact row24 X G c
            | 25, hg, _ => cases (Option.some.inj hg); exact row25 X G c
            | 26, hg, _ => cases (Option.some.inj hg); exact row26 X G c
            | 27, hg, _ => cases (Option.some.inj hg); exact row27 X G c
            | 28, hg, _ => cases (Option.some.inj hg); exact row28 X G c
            | 29, hg, _ => cases (Option.some.inj hg); exact row29 X G c
            | 30, hg, _ => cases (Option.some.inj hg); exact row30 X G c
            | 31, hg, _ => cases (Option.some.inj hg); exact row31 X G c
            | 32, hg, _ => cases (Option.some.inj hg); exact row32 X G c
            | 33, hg, _ => cases (Option.some.inj hg); exact row33 X G c
            | 34, hg, _ => cases (Option.some.inj hg); exact row34 X G c
            | 35, hg, _ => cases (Option.some.inj hg); exact row35 X G c
            | g + 36, _, hl => exact absurd hl (by omega)
          kwin := fun g m ks pm hk => by
            show g < 36
            rcases kw_in hk with ⟨rfl, _, _, _⟩ | ⟨rfl, _, _, _⟩ <;> decide
          cst := cstG_ok X G (q 1 _ rfl)
          fre := hfree X G c
          sys := q 0 _ rfl
          dct := fun x kvs hm => by
            simp only [tb, List.mem_cons, List.not_mem_nil, or_false, Prod.mk.injEq] at hm
            rcases hm with ⟨rfl, rfl⟩
            · exact ⟨_, He.glo_ok X G (c.t.d.fact 55 rfl), dctK_of c.t 0 rfl rfl (q 2 _ rfl)⟩ }
end
/-- the end of a head: the law's one call -/
theorem walk_toldE {l : PySem.W.OpenLaw} {n : Nat} {q : Program} {loose : List Str} {XP : (Str → Option Value) → Heap → Prop} {YP : World → Heap → Prop} {d : DefRec}
    (hn : l.most = some n) (hn2 : n ≤ sizeLine) (hdf : d.params.defaults = []) (hd : d.name = "law")
    (T : ∀ (w : World) (mg : Str → Option Value) (h : Heap), YP w h → h.Ns mainGlobals mg → ∃ K : PySem.W.Frag, K.In h ∧ ∀ P base, Hd P w K mg base tb dfs (ffa K)) :
    PySem.W.WalkO q loose XP YP l.row.toRowW d [] (fun f vs => PySem.call f vs) := by
  apply Att.attach_call hn hdf
  intro w s₀ s₁ mg mb fa o pm cd doc a vs ns G Y ho hdo hcd hmg hobj hints hlen hg
  obtain ⟨K, KX, tops⟩ := T w mg _ Y G.T.g
  rw [hd] at hmg
  refine law_told KX G.T.g G.T.b G.T.builtins G.T.nolimit hg hobj hints (Nat.le_trans hlen hn2) fun base H _ _ e0 hO hS => ?_
  have T1 := tops l.prog base
  obtain ⟨fl, fd, h1, h2, h3, h4, _⟩ := T1.row 35 d35 rfl
  have e : fa = ffa K 35 := by
    have h4 : mg "law" = some (.ref (ffa K 35)) := h4
    rw [hmg] at h4
    exact Value.ref.inj (Option.some.inj h4)
  rw [e]
  exact law_run T1 (g := 35) (d := d35) rfl rfl e0 hO hS (law_true ns)
end Lw
open PySem PySem.W PySem.Calls PyProof.Rows
set_option maxHeartbeats 0 in
theorem PySem.Challenge.cw_allshelves_k47_any_values_as_rows_and_de_holds : PySem.Challenge.rw_allshelves_k47_any_values_as_rows_and_de.Holds := by
  w_on; o_law
  refine HandSHeadRun.head_any (r := OpenLaw.row PySem.Challenge.rw_allshelves_k47_any_values_as_rows_and_de) (q := view (OpenLaw.row PySem.Challenge.rw_allshelves_k47_any_values_as_rows_and_de).prog [47]) (H := Fi.hookB 6 Lw.hfa Lw.hfn Lw.hts Lw.hex) (ob := Lw.ob) (M := 8000) (loose := Lw.loose) (d := HandSHeadRun.topDef (OpenLaw.row PySem.Challenge.rw_allshelves_k47_any_values_as_rows_and_de).prog 47) (kwd := []) Lw.ob_eq
    (by kernel_rfl) (fun s => by kernel_rfl) Lw.run (by kernel_rfl) (by kernel_rfl) (by kernel_rfl) (by rfl) (by first | assumption | decide +kernel) (by decide +kernel) ⟨rfl, rfl, rfl, rfl, rfl, by decide +kernel⟩ ?hw ?hc
  case hw => w_witness2
  case hc =>
    refine Lw.walk_toldE (l := PySem.Challenge.rw_allshelves_k47_any_values_as_rows_and_de) rfl (by decide) (by kernel_rfl) (by kernel_rfl) ?_
    intro w mg h Y G
    obtain ⟨K, KX, c⟩ := Y
    exact ⟨K, KX, fun P base => Lw.tops KX G c⟩
